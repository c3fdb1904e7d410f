/- Contracts of value.named, value.Right, value.Compare, cmp.Compare, and of the law's Num and Text. -/
import Derived.Test.YthjgbcbgkafgjaaDoorBase
import Derived.Laws.StructEq
import Derived.Deep.RegionHeld3
namespace Go.Proofs.YthjgbcbgkafgjaaDoor
open Go.RowKit
set_option linter.unusedVariables false
set_option linter.unusedSimpArgs false
set_option maxRecDepth 20000

theorem list_beqV (a b : List UInt8) : (a == b) = decide (a = b) := by
  by_cases h : a = b
  · subst h; simp
  · rw [decide_eq_false h]; simpa using h

theorem str8_toList (a : List UInt8) : (str8 a).toList = a := by
  rw [ByteArray.toList_eq]; rfl

theorem str_beqV (a b : List UInt8) : ((str8 a).toList == (str8 b).toList) = decide (a = b) := by
  rw [str8_toList, str8_toList, list_beqV]

theorem str8_size (bs : List UInt8) : (str8 bs).size = bs.length := rfl

theorem str8_of (s : ByteArray) : str8 s.data.toList = s := by
  cases s; simp [str8]

theorem str8_inj {a b : List UInt8} (h : str8 a = str8 b) : a = b := by
  have := congrArg (fun x => x.data.toList) h
  simpa [str8] using this

/-- A value: its kind, number, text. -/
structure Vl where
  k : Int
  n : Int
  s : List UInt8

/-- The value's three cells. -/
def vc (x : Vl) : List Value := [.int .i64 x.k, .int .i64 x.n, .string (str8 x.s)]

theorem Tryd.fieldsVal : Tryd.prog.underlying 23 = some (.struct (Tryd.prog.fieldsOf 23)) := by kernel_rfl
theorem Tryd.stoodVal : Tryd.prog.stoodInHeld 23 = false := by kernel_rfl

theorem eqf_val (e : Nat) (A B : Array Value) (a1 a2 a3 b1 b2 b3 : Value) (p q r : Bool) (w : World)
    (h1 : (Go.part 3 A 0).run Tryd.prog w = .ok a1 w) (h2 : (Go.part 3 A 1).run Tryd.prog w = .ok a2 w) (h3 : (Go.part 9 A 2).run Tryd.prog w = .ok a3 w)
    (g1 : (Go.part 3 B 0).run Tryd.prog w = .ok b1 w) (g2 : (Go.part 3 B 1).run Tryd.prog w = .ok b2 w) (g3 : (Go.part 9 B 2).run Tryd.prog w = .ok b3 w)
    (e1 : (Op.equalIn e 3 a1 b1).run Tryd.prog w = .ok p w) (e2 : (Op.equalIn e 3 a2 b2).run Tryd.prog w = .ok q w) (e3 : (Op.equalIn e 9 a3 b3).run Tryd.prog w = .ok r w) :
    (Op.eqFields e A B (Tryd.prog.fieldsOf 23).toList).run Tryd.prog w = .ok (p && (q && r)) w := by
  simp only [Program.fieldsOf, Tryd.underlying23]
  cases p <;> cases q <;> cases r <;> simp [Op.eqFields, h1, h2, h3, g1, g2, g3, e1, e2, e3]

theorem eq_val_at (d : Nat) (k k' n n' : Int) (s s' : ByteArray) (w : World) : (Op.equalIn (d + 1 + 1) 23 (.agg #[.int .i64 k, .int .i64 n, .string s]) (.agg #[.int .i64 k', .int .i64 n', .string s'])).run Tryd.prog w = .ok (k == k' && (n == n' && s.toList == s'.toList)) w := by
  rw [run_equalIn_struct (P := Tryd.prog) w (d + 1) 23 _ _ Tryd.fieldsVal Tryd.stoodVal]
  exact eqf_val _ _ _ (.int .i64 k) (.int .i64 n) (.string s) (.int .i64 k') (.int .i64 n') (.string s') _ _ _ w (by simp [Go.part, go_sem]) (by simp [Go.part, go_sem]) (by simp [Go.part, go_sem]) (by simp [Go.part, go_sem]) (by simp [Go.part, go_sem]) (by simp [Go.part, go_sem])
    (run_equalIn_int (P := Tryd.prog) w d 3 .i64 .i64 k k' Tryd.underlying3) (run_equalIn_int (P := Tryd.prog) w d 3 .i64 .i64 n n' Tryd.underlying3) (run_equalIn_string (P := Tryd.prog) w d 9 s s' Tryd.underlying9)

/-- Two values are one. -/
def eqv (x y : Vl) : Bool := decide (x.k = y.k ∧ x.n = y.n ∧ x.s = y.s)

theorem eqv_iff {x y : Vl} : eqv x y = true ↔ x = y := by
  obtain ⟨k, n, s⟩ := x
  obtain ⟨k', n', s'⟩ := y
  simp [eqv]

theorem eqv_parts (x y : Vl) : (x.k == y.k && (x.n == y.n && (str8 x.s).toList == (str8 y.s).toList)) = eqv x y := by
  obtain ⟨k, n, s⟩ := x
  obtain ⟨k', n', s'⟩ := y
  simp only [str8_toList, eqv]
  by_cases hk : k = k' <;> by_cases hn : n = n' <;> by_cases hs : s = s' <;> simp [hk, hn, hs]

theorem run_eqv (x y : Vl) (w : World) : (binOp .eql 23 (.agg #[.int .i64 x.k, .int .i64 x.n, .string (str8 x.s)]) (.agg #[.int .i64 y.k, .int .i64 y.n, .string (str8 y.s)])).run Tryd.prog w = .ok (.bool (eqv x y)) w := by
  rw [run_eql_struct, show (10000 : Nat) = 9998 + 1 + 1 from rfl, eq_val_at, eqv_parts]
  rfl

theorem run_nev (x y : Vl) (w : World) : (binOp .neq 23 (.agg #[.int .i64 x.k, .int .i64 x.n, .string (str8 x.s)]) (.agg #[.int .i64 y.k, .int .i64 y.n, .string (str8 y.s)])).run Tryd.prog w = .ok (.bool (!eqv x y)) w := by
  rw [run_neq_struct, show (10000 : Nat) = 9998 + 1 + 1 from rfl, eq_val_at, eqv_parts]
  rfl

/-- What of a value its kind names. -/
def namedV (x : Vl) : Vl := if x.k = 1 then ⟨1, x.n, []⟩ else if x.k = 2 then ⟨2, 0, x.s⟩ else ⟨0, 0, []⟩

/-- Right's answer. -/
def rightV (x : Vl) : Nat := if eqv x (namedV x) = false then 4 else if 40 < x.s.length then 2 else 0

set_option maxHeartbeats 1000000 in
theorem named_any (k n : Int) (s : List UInt8) (w : World) :
    Calls Tryd.prog 33 #[.agg #[.int .i64 k, .int .i64 n, .string (str8 s)]] w fun e w' => e = .returned (.agg #[.int .i64 (namedV ⟨k, n, s⟩).k, .int .i64 (namedV ⟨k, n, s⟩).n, .string (str8 (namedV ⟨k, n, s⟩).s)]) ∧ Below w.heap.size w w' := by
  have hb : ∀ (o o' : Obj), Below w.heap.size w ((w.alloc o).alloc o') := fun o o' => ((Below.refl _ _).alloc (Nat.le_refl _) _).alloc (by simp) _
  have e0 : str8 [] = ⟨#[]⟩ := rfl
  by_cases h1 : k = 1
  · have hd : namedV ⟨k, n, s⟩ = ⟨1, n, []⟩ := by simp [namedV, h1]
    rw [hd, e0]
    subst h1
    go_enter Tryd.func33, Tryd.ntmps33
    go_wp2
    exact bodyPost_ret (v := .agg #[.int .i64 1, .int .i64 n, .string ⟨#[]⟩]) (by simp [results, Tryd.results33, go_sem]) rfl ⟨rfl, hb _ _⟩
  · have h1' : (k == 1) = false := by simpa using h1
    by_cases h2 : k = 2
    · have hd : namedV ⟨k, n, s⟩ = ⟨2, 0, s⟩ := by simp [namedV, h2]
      rw [hd]
      subst h2
      go_enter Tryd.func33, Tryd.ntmps33
      go_wp2
      exact bodyPost_ret (v := .agg #[.int .i64 2, .int .i64 0, .string (str8 s)]) (by simp [results, Tryd.results33, go_sem]) rfl ⟨rfl, hb _ _⟩
    · have h2' : (k == 2) = false := by simpa using h2
      have hd : namedV ⟨k, n, s⟩ = ⟨0, 0, []⟩ := by simp [namedV, h1, h2]
      rw [hd, e0]
      go_enter Tryd.func33, Tryd.ntmps33
      go_wp2
      exact bodyPost_ret (v := .agg #[.int .i64 0, .int .i64 0, .string ⟨#[]⟩]) (by simp [results, Tryd.results33, go_sem]) rfl ⟨rfl, hb _ _⟩

set_option maxHeartbeats 1000000 in
theorem lawNum_any (n : Int) (w : World) :
    Calls Tryd.prog 21 #[.int .i64 n] w fun e w' => e = .returned (.agg #[.int .i64 1, .int .i64 n, .string (str8 [])]) ∧ Below w.heap.size w w' := by
  have hb : ∀ (o : Obj), Below w.heap.size w (w.alloc o) := fun o => (Below.refl _ _).alloc (Nat.le_refl _) _
  go_enter Tryd.func21, Tryd.ntmps21
  go_wp2
  exact bodyPost_ret (v := .agg #[.int .i64 1, .int .i64 n, .string (str8 [])]) (by simp [results, Tryd.results21, go_sem]; rfl) rfl ⟨rfl, hb _⟩

/-- cmp.Compare of two numbers. -/
def cmpI (a b : Int) : Int := if a < b then -1 else if b < a then 1 else 0

/-- cmp.Compare of two texts. -/
def cmpS (a b : List UInt8) : Int := if Op.bytesLess a b then -1 else if a = b then 0 else 1

set_option maxHeartbeats 1000000 in
theorem nanInt_any (a : Int) (w : World) : Calls Tryd.prog 44 #[.int .i64 a] w fun e w' => e = .returned (.bool false) ∧ w' = w := by
  go_enter Tryd.func44, Tryd.ntmps44
  go_wp2
  go_ret
  exact ⟨by simp, rfl⟩

set_option maxHeartbeats 1000000 in
theorem nanStr_any (a : ByteArray) (w : World) : Calls Tryd.prog 45 #[.string a] w fun e w' => e = .returned (.bool false) ∧ w' = w := by
  go_enter Tryd.func45, Tryd.ntmps45
  go_wp2
  go_ret
  exact ⟨by simp, rfl⟩

set_option maxHeartbeats 1000000 in
theorem cmpInt_any (a b : Int) (w : World) : Calls Tryd.prog 35 #[.int .i64 a, .int .i64 b] w fun e w' => e = .returned (.int .i64 (cmpI a b)) ∧ w' = w := by
  rcases Int.lt_trichotomy a b with h | h | h
  · have hd : cmpI a b = -1 := by simp [cmpI, h]
    rw [hd]
    have h1 : decide (a < b) = true := decide_eq_true h
    go_enter Tryd.func35, Tryd.ntmps35
    go_wp2_with (go_at_call 44; refine (nanInt_any _ _).mono ?_; rintro e w' ⟨rfl, rfl⟩)
    go_ret
    exact ⟨rfl, rfl⟩
  · have hd : cmpI a b = 0 := by simp [cmpI, h]
    rw [hd]
    subst h
    go_enter Tryd.func35, Tryd.ntmps35
    go_wp2_with (go_at_call 44; refine (nanInt_any _ _).mono ?_; rintro e w' ⟨rfl, rfl⟩)
    go_ret
    exact ⟨rfl, rfl⟩
  · have hn : ¬ a < b := by omega
    have hd : cmpI a b = 1 := by simp [cmpI, h, hn]
    rw [hd]
    have h1 : decide (a < b) = false := decide_eq_false hn
    have h2 : decide (b < a) = true := decide_eq_true h
    go_enter Tryd.func35, Tryd.ntmps35
    go_wp2_with (go_at_call 44; refine (nanInt_any _ _).mono ?_; rintro e w' ⟨rfl, rfl⟩)
    go_ret
    exact ⟨rfl, rfl⟩

set_option maxHeartbeats 1000000 in
theorem cmpStr_any (a b : List UInt8) (w : World) : Calls Tryd.prog 36 #[.string (str8 a), .string (str8 b)] w fun e w' => e = .returned (.int .i64 (cmpS a b)) ∧ w' = w := by
  have e1 := str8_toList a
  have e2 := str8_toList b
  by_cases h : Op.bytesLess a b = true
  · have hd : cmpS a b = -1 := by simp [cmpS, h]
    rw [hd]
    have h1 : Op.bytesLess (str8 a).toList (str8 b).toList = true := by rw [e1, e2]; exact h
    clear e1 e2 h
    go_enter Tryd.func36, Tryd.ntmps36
    go_wp2_with (go_at_call 45; refine (nanStr_any _ _).mono ?_; rintro e w' ⟨rfl, rfl⟩)
    go_ret
    exact ⟨rfl, rfl⟩
  · have hf : Op.bytesLess a b = false := by simpa using h
    have h1 : Op.bytesLess (str8 a).toList (str8 b).toList = false := by rw [e1, e2]; exact hf
    have h2 := str_beqV a b
    clear e1 e2 h
    by_cases hab : a = b
    · have hd : cmpS a b = 0 := by rw [cmpS, hf, if_neg (by simp), if_pos hab]
      rw [hd]
      rw [decide_eq_true hab] at h2
      clear hab hf hd
      go_enter Tryd.func36, Tryd.ntmps36
      go_wp2_with (go_at_call 45; refine (nanStr_any _ _).mono ?_; rintro e w' ⟨rfl, rfl⟩)
      go_ret
      exact ⟨rfl, rfl⟩
    · have hd : cmpS a b = 1 := by rw [cmpS, hf, if_neg (by simp), if_neg hab]
      rw [hd]
      rw [decide_eq_false hab] at h2
      clear hab hf hd
      go_enter Tryd.func36, Tryd.ntmps36
      go_wp2_with (go_at_call 45; refine (nanStr_any _ _).mono ?_; rintro e w' ⟨rfl, rfl⟩)
      go_ret
      exact ⟨rfl, rfl⟩
end Go.Proofs.YthjgbcbgkafgjaaDoor
