/- Contracts of value.named, value.Right, value.Compare, cmp.Compare, and of the law's Num and Text. -/
import Derived.Test.YtokfphfgcjbpkaaGreatDoorBase
import Derived.Laws.StructEq
import Derived.Deep.RegionHeld3
namespace Go.Proofs.YtokfphfgcjbpkaaGreatDoor
open Go.RowKit
set_option linter.unusedVariables false
set_option linter.unusedSimpArgs false
set_option maxRecDepth 20000

theorem list_beqV (a b : List UInt8) : (a == b) = decide (a = b) := by
  by_cases h : a = b
  · subst h; simp
  · rw [decide_eq_false h]; simpa using h

theorem str8_toList (a : List UInt8) : (str8 a).toList = a := by
  rw [ByteArray.toList_eq]; rfl

theorem str_beqV (a b : List UInt8) : ((str8 a).toList == (str8 b).toList) = decide (a = b) := by
  rw [str8_toList, str8_toList, list_beqV]

theorem str8_size (bs : List UInt8) : (str8 bs).size = bs.length := rfl

theorem str8_of (s : ByteArray) : str8 s.data.toList = s := by
  cases s; simp [str8]

theorem str8_inj {a b : List UInt8} (h : str8 a = str8 b) : a = b := by
  have := congrArg (fun x => x.data.toList) h
  simpa [str8] using this

/-- A value: its kind, number, text. -/
structure Vl where
  k : Int
  n : Int
  s : List UInt8

/-- The value's three cells. -/
def vc (x : Vl) : List Value := [.int .i64 x.k, .int .i64 x.n, .string (str8 x.s)]

theorem Tryz.fieldsVal : Tryz.prog.underlying 37 = some (.struct (Tryz.prog.fieldsOf 37)) := by kernel_rfl
theorem Tryz.stoodVal : Tryz.prog.stoodInHeld 37 = false := by kernel_rfl

theorem eqf_val (e : Nat) (A B : Array Value) (a1 a2 a3 b1 b2 b3 : Value) (p q r : Bool) (w : World)
    (h1 : (Go.part 3 A 0).run Tryz.prog w = .ok a1 w) (h2 : (Go.part 3 A 1).run Tryz.prog w = .ok a2 w) (h3 : (Go.part 9 A 2).run Tryz.prog w = .ok a3 w)
    (g1 : (Go.part 3 B 0).run Tryz.prog w = .ok b1 w) (g2 : (Go.part 3 B 1).run Tryz.prog w = .ok b2 w) (g3 : (Go.part 9 B 2).run Tryz.prog w = .ok b3 w)
    (e1 : (Op.equalIn e 3 a1 b1).run Tryz.prog w = .ok p w) (e2 : (Op.equalIn e 3 a2 b2).run Tryz.prog w = .ok q w) (e3 : (Op.equalIn e 9 a3 b3).run Tryz.prog w = .ok r w) :
    (Op.eqFields e A B (Tryz.prog.fieldsOf 37).toList).run Tryz.prog w = .ok (p && (q && r)) w := by
  simp only [Program.fieldsOf, Tryz.underlying37]
  cases p <;> cases q <;> cases r <;> simp [Op.eqFields, h1, h2, h3, g1, g2, g3, e1, e2, e3]

theorem eq_val_at (d : Nat) (k k' n n' : Int) (s s' : ByteArray) (w : World) : (Op.equalIn (d + 1 + 1) 37 (.agg #[.int .i64 k, .int .i64 n, .string s]) (.agg #[.int .i64 k', .int .i64 n', .string s'])).run Tryz.prog w = .ok (k == k' && (n == n' && s.toList == s'.toList)) w := by
  rw [run_equalIn_struct (P := Tryz.prog) w (d + 1) 37 _ _ Tryz.fieldsVal Tryz.stoodVal]
  exact eqf_val _ _ _ (.int .i64 k) (.int .i64 n) (.string s) (.int .i64 k') (.int .i64 n') (.string s') _ _ _ w (by simp [Go.part, go_sem]) (by simp [Go.part, go_sem]) (by simp [Go.part, go_sem]) (by simp [Go.part, go_sem]) (by simp [Go.part, go_sem]) (by simp [Go.part, go_sem])
    (run_equalIn_int (P := Tryz.prog) w d 3 .i64 .i64 k k' Tryz.underlying3) (run_equalIn_int (P := Tryz.prog) w d 3 .i64 .i64 n n' Tryz.underlying3) (run_equalIn_string (P := Tryz.prog) w d 9 s s' Tryz.underlying9)

/-- Two values are one. -/
def eqv (x y : Vl) : Bool := decide (x.k = y.k ∧ x.n = y.n ∧ x.s = y.s)

theorem eqv_iff {x y : Vl} : eqv x y = true ↔ x = y := by
  obtain ⟨k, n, s⟩ := x
  obtain ⟨k', n', s'⟩ := y
  simp [eqv]

theorem eqv_parts (x y : Vl) : (x.k == y.k && (x.n == y.n && (str8 x.s).toList == (str8 y.s).toList)) = eqv x y := by
  obtain ⟨k, n, s⟩ := x
  obtain ⟨k', n', s'⟩ := y
  simp only [str8_toList, eqv]
  by_cases hk : k = k' <;> by_cases hn : n = n' <;> by_cases hs : s = s' <;> simp [hk, hn, hs]

theorem run_eqv (x y : Vl) (w : World) : (binOp .eql 37 (.agg #[.int .i64 x.k, .int .i64 x.n, .string (str8 x.s)]) (.agg #[.int .i64 y.k, .int .i64 y.n, .string (str8 y.s)])).run Tryz.prog w = .ok (.bool (eqv x y)) w := by
  rw [run_eql_struct, show (10000 : Nat) = 9998 + 1 + 1 from rfl, eq_val_at, eqv_parts]
  rfl

theorem run_nev (x y : Vl) (w : World) : (binOp .neq 37 (.agg #[.int .i64 x.k, .int .i64 x.n, .string (str8 x.s)]) (.agg #[.int .i64 y.k, .int .i64 y.n, .string (str8 y.s)])).run Tryz.prog w = .ok (.bool (!eqv x y)) w := by
  rw [run_neq_struct, show (10000 : Nat) = 9998 + 1 + 1 from rfl, eq_val_at, eqv_parts]
  rfl

/-- What of a value its kind names. -/
def namedV (x : Vl) : Vl := if x.k = 1 then ⟨1, x.n, []⟩ else if x.k = 2 then ⟨2, 0, x.s⟩ else ⟨0, 0, []⟩

/-- Right's answer. -/
def rightV (x : Vl) : Nat := if eqv x (namedV x) = false then 4 else if 40 < x.s.length then 2 else 0

/-- cmp.Compare of two numbers. -/
def cmpI (a b : Int) : Int := if a < b then -1 else if b < a then 1 else 0

/-- cmp.Compare of two texts. -/
def cmpS (a b : List UInt8) : Int := if Op.bytesLess a b then -1 else if a = b then 0 else 1

end Go.Proofs.YtokfphfgcjbpkaaGreatDoor
