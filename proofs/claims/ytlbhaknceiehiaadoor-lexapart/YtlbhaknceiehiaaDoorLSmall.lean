/- The law's small case; two tokens, two faults compared. -/
import Derived.Test.YtlbhaknceiehiaaDoorLTok
import Derived.Laws.StructEq
namespace Go.Proofs.YtlbhaknceiehiaaDoor
open Go.RowKit Go.Shelf
set_option linter.unusedVariables false
set_option linter.unusedSimpArgs false
set_option maxRecDepth 20000

theorem Tryd.fieldsTok : Tryd.prog.underlying 33 = some (.struct (Tryd.prog.fieldsOf 33)) := by kernel_rfl
theorem Tryd.stoodTok : Tryd.prog.stoodInHeld 33 = false := by kernel_rfl
theorem Tryd.eqGuardTok : Tryd.prog.eqGuardType Tryd.prog.depth 33 = false := by kernel_rfl
theorem Tryd.fieldsFault : Tryd.prog.underlying 26 = some (.struct (Tryd.prog.fieldsOf 26)) := by kernel_rfl
theorem Tryd.stoodFault : Tryd.prog.stoodInHeld 26 = false := by kernel_rfl
theorem Tryd.eqGuardFault : Tryd.prog.eqGuardType Tryd.prog.depth 26 = false := by kernel_rfl

theorem eqf_tok (e : Nat) (A B : Array Value) (a1 a2 a3 a4 b1 b2 b3 b4 : Value) (p q r t : Bool) (w : World)
    (h1 : (Go.part 3 A 0).run Tryd.prog w = .ok a1 w) (h2 : (Go.part 9 A 1).run Tryd.prog w = .ok a2 w) (h3 : (Go.part 3 A 2).run Tryd.prog w = .ok a3 w) (h4 : (Go.part 3 A 3).run Tryd.prog w = .ok a4 w)
    (g1 : (Go.part 3 B 0).run Tryd.prog w = .ok b1 w) (g2 : (Go.part 9 B 1).run Tryd.prog w = .ok b2 w) (g3 : (Go.part 3 B 2).run Tryd.prog w = .ok b3 w) (g4 : (Go.part 3 B 3).run Tryd.prog w = .ok b4 w)
    (e1 : (Op.equalIn e 3 a1 b1).run Tryd.prog w = .ok p w) (e2 : (Op.equalIn e 9 a2 b2).run Tryd.prog w = .ok q w) (e3 : (Op.equalIn e 3 a3 b3).run Tryd.prog w = .ok r w) (e4 : (Op.equalIn e 3 a4 b4).run Tryd.prog w = .ok t w) :
    (Op.eqFields e A B (Tryd.prog.fieldsOf 33).toList).run Tryd.prog w = .ok (p && (q && (r && t))) w := by
  simp only [Program.fieldsOf, Tryd.underlying33]
  cases p <;> cases q <;> cases r <;> cases t <;> simp [Op.eqFields, h1, h2, h3, h4, g1, g2, g3, g4, e1, e2, e3, e4]

theorem eq_tok_at (d : Nat) (k k' n n' a a' : Int) (s s' : ByteArray) (w : World) : (Op.equalIn (d + 1 + 1) 33 (.agg #[.int .i64 k, .string s, .int .i64 n, .int .i64 a]) (.agg #[.int .i64 k', .string s', .int .i64 n', .int .i64 a'])).run Tryd.prog w = .ok (k == k' && (s.toList == s'.toList && (n == n' && a == a'))) w := by
  rw [run_equalIn_struct (P := Tryd.prog) w (d + 1) 33 _ _ Tryd.fieldsTok Tryd.stoodTok]
  exact eqf_tok _ _ _ (.int .i64 k) (.string s) (.int .i64 n) (.int .i64 a) (.int .i64 k') (.string s') (.int .i64 n') (.int .i64 a') _ _ _ _ w (by simp [Go.part, go_sem]) (by simp [Go.part, go_sem]) (by simp [Go.part, go_sem]) (by simp [Go.part, go_sem]) (by simp [Go.part, go_sem]) (by simp [Go.part, go_sem]) (by simp [Go.part, go_sem]) (by simp [Go.part, go_sem])
    (run_equalIn_int (P := Tryd.prog) w d 3 .i64 .i64 k k' Tryd.underlying3) (run_equalIn_string (P := Tryd.prog) w d 9 s s' Tryd.underlying9) (run_equalIn_int (P := Tryd.prog) w d 3 .i64 .i64 n n' Tryd.underlying3) (run_equalIn_int (P := Tryd.prog) w d 3 .i64 .i64 a a' Tryd.underlying3)

/-- Two tokens are one. -/
theorem run_eqt (x : Tk) (w : World) : (binOp .eql 33 (.agg #[.int .i64 x.k, .string (str8 x.s), .int .i64 x.n, .int .i64 x.p]) (.agg #[.int .i64 x.k, .string (str8 x.s), .int .i64 x.n, .int .i64 x.p])).run Tryd.prog w = .ok (.bool true) w := by
  rw [run_eql_struct, show (10000 : Nat) = 9998 + 1 + 1 from rfl, eq_tok_at]
  simp

theorem run_net (k n p : Int) (s : List UInt8) (w : World) : (binOp .neq 33 (.agg #[.int .i64 k, .string (str8 s), .int .i64 n, .int .i64 p]) (.agg #[.int .i64 k, .string (str8 s), .int .i64 n, .int .i64 p])).run Tryd.prog w = .ok (.bool false) w := by
  rw [run_neq_struct, show (10000 : Nat) = 9998 + 1 + 1 from rfl, eq_tok_at]
  simp

theorem eqf_fault (e : Nat) (A B : Array Value) (a1 a2 b1 b2 : Value) (p q : Bool) (w : World)
    (h1 : (Go.part 24 A 0).run Tryd.prog w = .ok a1 w) (h2 : (Go.part 3 A 1).run Tryd.prog w = .ok a2 w)
    (g1 : (Go.part 24 B 0).run Tryd.prog w = .ok b1 w) (g2 : (Go.part 3 B 1).run Tryd.prog w = .ok b2 w)
    (e1 : (Op.equalIn e 24 a1 b1).run Tryd.prog w = .ok p w) (e2 : (Op.equalIn e 3 a2 b2).run Tryd.prog w = .ok q w) :
    (Op.eqFields e A B (Tryd.prog.fieldsOf 26).toList).run Tryd.prog w = .ok (p && q) w := by
  simp only [Program.fieldsOf, Tryd.underlying26]
  cases p <;> cases q <;> simp [Op.eqFields, h1, h2, g1, g2, e1, e2]

theorem eq_fault_at (d : Nat) (k k' n n' : Int) (w : World) : (Op.equalIn (d + 1 + 1) 26 (.agg #[.int .i64 k, .int .i64 n]) (.agg #[.int .i64 k', .int .i64 n'])).run Tryd.prog w = .ok (k == k' && n == n') w := by
  rw [run_equalIn_struct (P := Tryd.prog) w (d + 1) 26 _ _ Tryd.fieldsFault Tryd.stoodFault]
  exact eqf_fault _ _ _ (.int .i64 k) (.int .i64 n) (.int .i64 k') (.int .i64 n') _ _ w (by simp [Go.part, go_sem]) (by simp [Go.part, go_sem]) (by simp [Go.part, go_sem]) (by simp [Go.part, go_sem])
    (run_equalIn_int (P := Tryd.prog) w d 24 .i64 .i64 k k' Tryd.underlying24) (run_equalIn_int (P := Tryd.prog) w d 3 .i64 .i64 n n' Tryd.underlying3)

theorem run_eqfault (k n : Int) (w : World) : (binOp .eql 26 (.agg #[.int .i64 k, .int .i64 n]) (.agg #[.int .i64 k, .int .i64 n])).run Tryd.prog w = .ok (.bool true) w := by
  rw [run_eql_struct, show (10000 : Nat) = 9998 + 1 + 1 from rfl, eq_fault_at]
  simp

theorem small_toks : tokens [83, 69, 76, 69, 67, 84, 32, 97, 49, 44, 39, 105, 116, 39, 39, 115, 39, 32, 45, 45, 32, 120] = (0, 0, [⟨2, [83, 69, 76, 69, 67, 84], 0, 0⟩, ⟨1, [97, 49], 0, 7⟩, ⟨5, [44], 0, 9⟩, ⟨4, [105, 116, 39, 115], 0, 10⟩, ⟨6, [], 0, 22⟩]) := by rfl

set_option maxHeartbeats 1000000 in
theorem small8_any (w : World) (hT : TabL w) : Calls Tryd.prog 8 #[] w fun e w' => e = .returned (.bool true) ∧ Below w.heap.size w w' := by
  have hg1 := Tryd.eqGuardTok
  have hg2 := Tryd.eqGuardFault
  have q0 : ∀ w, (binOp .eql 26 (.agg #[.int .i64 0, .int .i64 0]) (.agg #[.int .i64 0, .int .i64 0])).run Tryd.prog w = .ok (.bool true) w := run_eqfault 0 0
  have q1 : ∀ w, (binOp .eql 33 (.agg #[.int .i64 2, .string ⟨#[83, 69, 76, 69, 67, 84]⟩, .int .i64 0, .int .i64 0]) (.agg #[.int .i64 2, .string ⟨#[83, 69, 76, 69, 67, 84]⟩, .int .i64 0, .int .i64 0])).run Tryd.prog w = .ok (.bool true) w := run_eqt ⟨2, [83, 69, 76, 69, 67, 84], 0, 0⟩
  have q2 : ∀ w, (binOp .eql 33 (.agg #[.int .i64 4, .string ⟨#[105, 116, 39, 115]⟩, .int .i64 0, .int .i64 10]) (.agg #[.int .i64 4, .string ⟨#[105, 116, 39, 115]⟩, .int .i64 0, .int .i64 10])).run Tryd.prog w = .ok (.bool true) w := run_eqt ⟨4, [105, 116, 39, 115], 0, 10⟩
  have q3 : ∀ w, (binOp .eql 33 (.agg #[.int .i64 6, .string ⟨#[]⟩, .int .i64 0, .int .i64 22]) (.agg #[.int .i64 6, .string ⟨#[]⟩, .int .i64 0, .int .i64 22])).run Tryd.prog w = .ok (.bool true) w := run_eqt ⟨6, [], 0, 22⟩
  have HK : Hid (Calls Tryd.prog 9 #[.string ⟨#[83, 69, 76, 69, 67, 84, 32, 97, 49, 44, 39, 105, 116, 39, 39, 115, 39, 32, 45, 45, 32, 120]⟩] w fun e w' => ∃ v, e = .returned (.tuple #[v, .agg #[.int .i64 0, .int .i64 0]]) ∧ Toks w'.heap.size w' v [⟨2, [83, 69, 76, 69, 67, 84], 0, 0⟩, ⟨1, [97, 49], 0, 7⟩, ⟨5, [44], 0, 9⟩, ⟨4, [105, 116, 39, 115], 0, 10⟩, ⟨6, [], 0, 22⟩] ∧ Below w.heap.size w w') := hid (by
    have := tokens_any [83, 69, 76, 69, 67, 84, 32, 97, 49, 44, 39, 105, 116, 39, 39, 115, 39, 32, 45, 45, 32, 120] w hT (by decide)
    rw [small_toks] at this
    exact this)
  clear hT
  go_enter Tryd.func8, Tryd.ntmps8
  go_wp2_with fail
  refine HK.out.mono ?_
  rintro e w1 ⟨v, rfl, htk, hb1⟩
  obtain ⟨a, c, rfl, h1, h2, h3⟩ := htk
  obtain ⟨b, off, rfl, hlt, hcell⟩ := h3 (by simp)
  have f : ∀ o, (w1.alloc o).cell? ⟨b, off, none⟩ = some (.int .i64 2) ∧ (w1.alloc o).cell? ⟨b, off + 1, none⟩ = some (.string ⟨#[83, 69, 76, 69, 67, 84]⟩) ∧ (w1.alloc o).cell? ⟨b, off + 2, none⟩ = some (.int .i64 0) ∧ (w1.alloc o).cell? ⟨b, off + 3, none⟩ = some (.int .i64 0) ∧
      (w1.alloc o).cell? ⟨b, off + 12, none⟩ = some (.int .i64 4) ∧ (w1.alloc o).cell? ⟨b, off + 13, none⟩ = some (.string ⟨#[105, 116, 39, 115]⟩) ∧ (w1.alloc o).cell? ⟨b, off + 14, none⟩ = some (.int .i64 0) ∧ (w1.alloc o).cell? ⟨b, off + 15, none⟩ = some (.int .i64 10) ∧
      (w1.alloc o).cell? ⟨b, off + 16, none⟩ = some (.int .i64 6) ∧ (w1.alloc o).cell? ⟨b, off + 17, none⟩ = some (.string ⟨#[]⟩) ∧ (w1.alloc o).cell? ⟨b, off + 18, none⟩ = some (.int .i64 0) ∧ (w1.alloc o).cell? ⟨b, off + 19, none⟩ = some (.int .i64 22) := fun o => by
    have hb : Below w1.heap.size w1 (w1.alloc o) := (Below.refl _ _).alloc (Nat.le_refl _) o
    have k : ∀ i u, w1.cell? ⟨b, i, none⟩ = some u → (w1.alloc o).cell? ⟨b, i, none⟩ = some u := fun i u h => (hb.cell (p := ⟨b, i, none⟩) hlt).trans h
    obtain ⟨a0, a1, a2, a3⟩ := hcell 0 _ rfl
    obtain ⟨b0, b1, b2, b3⟩ := hcell 3 _ rfl
    obtain ⟨c0, c1, c2, c3⟩ := hcell 4 _ rfl
    exact ⟨k _ _ a0, k _ _ a1, k _ _ a2, k _ _ a3, k _ _ b0, k _ _ b1, k _ _ b2, k _ _ b3, k _ _ c0, k _ _ c1, k _ _ c2, k _ _ c3⟩
  have g := f (.cells #[.int .i64 0, .int .i64 0] 26)
  have HB : Hid (Below w.heap.size w (w1.alloc (.cells #[.int .i64 0, .int .i64 0] 26))) := hid (hb1.alloc hb1.size _)
  clear f hcell h3 HK hb1
  go_wp2
  go_ret
  exact ⟨rfl, HB.out⟩
end Go.Proofs.YtlbhaknceiehiaaDoor
