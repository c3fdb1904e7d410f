/- The law's small case; two tokens, two faults compared. -/
import Derived.Test.YtokfphfgcjbpkaaGreatDoorLTok
import Derived.Laws.StructEq
namespace Go.Proofs.YtokfphfgcjbpkaaGreatDoor
open Go.RowKit Go.Shelf
set_option linter.unusedVariables false
set_option linter.unusedSimpArgs false
set_option maxRecDepth 20000

theorem Tryz.fieldsTok : Tryz.prog.underlying 71 = some (.struct (Tryz.prog.fieldsOf 71)) := by kernel_rfl
theorem Tryz.stoodTok : Tryz.prog.stoodInHeld 71 = false := by kernel_rfl
theorem Tryz.eqGuardTok : Tryz.prog.eqGuardType Tryz.prog.depth 71 = false := by kernel_rfl
theorem Tryz.fieldsFault : Tryz.prog.underlying 26 = some (.struct (Tryz.prog.fieldsOf 26)) := by kernel_rfl
theorem Tryz.stoodFault : Tryz.prog.stoodInHeld 26 = false := by kernel_rfl
theorem Tryz.eqGuardFault : Tryz.prog.eqGuardType Tryz.prog.depth 26 = false := by kernel_rfl

theorem eqf_tok (e : Nat) (A B : Array Value) (a1 a2 a3 a4 b1 b2 b3 b4 : Value) (p q r t : Bool) (w : World)
    (h1 : (Go.part 3 A 0).run Tryz.prog w = .ok a1 w) (h2 : (Go.part 9 A 1).run Tryz.prog w = .ok a2 w) (h3 : (Go.part 3 A 2).run Tryz.prog w = .ok a3 w) (h4 : (Go.part 3 A 3).run Tryz.prog w = .ok a4 w)
    (g1 : (Go.part 3 B 0).run Tryz.prog w = .ok b1 w) (g2 : (Go.part 9 B 1).run Tryz.prog w = .ok b2 w) (g3 : (Go.part 3 B 2).run Tryz.prog w = .ok b3 w) (g4 : (Go.part 3 B 3).run Tryz.prog w = .ok b4 w)
    (e1 : (Op.equalIn e 3 a1 b1).run Tryz.prog w = .ok p w) (e2 : (Op.equalIn e 9 a2 b2).run Tryz.prog w = .ok q w) (e3 : (Op.equalIn e 3 a3 b3).run Tryz.prog w = .ok r w) (e4 : (Op.equalIn e 3 a4 b4).run Tryz.prog w = .ok t w) :
    (Op.eqFields e A B (Tryz.prog.fieldsOf 71).toList).run Tryz.prog w = .ok (p && (q && (r && t))) w := by
  simp only [Program.fieldsOf, Tryz.underlying71]
  cases p <;> cases q <;> cases r <;> cases t <;> simp [Op.eqFields, h1, h2, h3, h4, g1, g2, g3, g4, e1, e2, e3, e4]

theorem eq_tok_at (d : Nat) (k k' n n' a a' : Int) (s s' : ByteArray) (w : World) : (Op.equalIn (d + 1 + 1) 71 (.agg #[.int .i64 k, .string s, .int .i64 n, .int .i64 a]) (.agg #[.int .i64 k', .string s', .int .i64 n', .int .i64 a'])).run Tryz.prog w = .ok (k == k' && (s.toList == s'.toList && (n == n' && a == a'))) w := by
  rw [run_equalIn_struct (P := Tryz.prog) w (d + 1) 71 _ _ Tryz.fieldsTok Tryz.stoodTok]
  exact eqf_tok _ _ _ (.int .i64 k) (.string s) (.int .i64 n) (.int .i64 a) (.int .i64 k') (.string s') (.int .i64 n') (.int .i64 a') _ _ _ _ w (by simp [Go.part, go_sem]) (by simp [Go.part, go_sem]) (by simp [Go.part, go_sem]) (by simp [Go.part, go_sem]) (by simp [Go.part, go_sem]) (by simp [Go.part, go_sem]) (by simp [Go.part, go_sem]) (by simp [Go.part, go_sem])
    (run_equalIn_int (P := Tryz.prog) w d 3 .i64 .i64 k k' Tryz.underlying3) (run_equalIn_string (P := Tryz.prog) w d 9 s s' Tryz.underlying9) (run_equalIn_int (P := Tryz.prog) w d 3 .i64 .i64 n n' Tryz.underlying3) (run_equalIn_int (P := Tryz.prog) w d 3 .i64 .i64 a a' Tryz.underlying3)

/-- Two tokens are one. -/
theorem run_eqt (x : Tk) (w : World) : (binOp .eql 71 (.agg #[.int .i64 x.k, .string (str8 x.s), .int .i64 x.n, .int .i64 x.p]) (.agg #[.int .i64 x.k, .string (str8 x.s), .int .i64 x.n, .int .i64 x.p])).run Tryz.prog w = .ok (.bool true) w := by
  rw [run_eql_struct, show (10000 : Nat) = 9998 + 1 + 1 from rfl, eq_tok_at]
  simp

theorem run_net (k n p : Int) (s : List UInt8) (w : World) : (binOp .neq 71 (.agg #[.int .i64 k, .string (str8 s), .int .i64 n, .int .i64 p]) (.agg #[.int .i64 k, .string (str8 s), .int .i64 n, .int .i64 p])).run Tryz.prog w = .ok (.bool false) w := by
  rw [run_neq_struct, show (10000 : Nat) = 9998 + 1 + 1 from rfl, eq_tok_at]
  simp

theorem eqf_fault (e : Nat) (A B : Array Value) (a1 a2 b1 b2 : Value) (p q : Bool) (w : World)
    (h1 : (Go.part 24 A 0).run Tryz.prog w = .ok a1 w) (h2 : (Go.part 3 A 1).run Tryz.prog w = .ok a2 w)
    (g1 : (Go.part 24 B 0).run Tryz.prog w = .ok b1 w) (g2 : (Go.part 3 B 1).run Tryz.prog w = .ok b2 w)
    (e1 : (Op.equalIn e 24 a1 b1).run Tryz.prog w = .ok p w) (e2 : (Op.equalIn e 3 a2 b2).run Tryz.prog w = .ok q w) :
    (Op.eqFields e A B (Tryz.prog.fieldsOf 26).toList).run Tryz.prog w = .ok (p && q) w := by
  simp only [Program.fieldsOf, Tryz.underlying26]
  cases p <;> cases q <;> simp [Op.eqFields, h1, h2, g1, g2, e1, e2]

theorem eq_fault_at (d : Nat) (k k' n n' : Int) (w : World) : (Op.equalIn (d + 1 + 1) 26 (.agg #[.int .i64 k, .int .i64 n]) (.agg #[.int .i64 k', .int .i64 n'])).run Tryz.prog w = .ok (k == k' && n == n') w := by
  rw [run_equalIn_struct (P := Tryz.prog) w (d + 1) 26 _ _ Tryz.fieldsFault Tryz.stoodFault]
  exact eqf_fault _ _ _ (.int .i64 k) (.int .i64 n) (.int .i64 k') (.int .i64 n') _ _ w (by simp [Go.part, go_sem]) (by simp [Go.part, go_sem]) (by simp [Go.part, go_sem]) (by simp [Go.part, go_sem])
    (run_equalIn_int (P := Tryz.prog) w d 24 .i64 .i64 k k' Tryz.underlying24) (run_equalIn_int (P := Tryz.prog) w d 3 .i64 .i64 n n' Tryz.underlying3)

theorem run_eqfault (k n : Int) (w : World) : (binOp .eql 26 (.agg #[.int .i64 k, .int .i64 n]) (.agg #[.int .i64 k, .int .i64 n])).run Tryz.prog w = .ok (.bool true) w := by
  rw [run_eql_struct, show (10000 : Nat) = 9998 + 1 + 1 from rfl, eq_fault_at]
  simp

theorem small_toks : tokens [83, 69, 76, 69, 67, 84, 32, 97, 49, 44, 39, 105, 116, 39, 39, 115, 39, 32, 45, 45, 32, 120] = (0, 0, [⟨2, [83, 69, 76, 69, 67, 84], 0, 0⟩, ⟨1, [97, 49], 0, 7⟩, ⟨5, [44], 0, 9⟩, ⟨4, [105, 116, 39, 115], 0, 10⟩, ⟨6, [], 0, 22⟩]) := by rfl

end Go.Proofs.YtokfphfgcjbpkaaGreatDoor
