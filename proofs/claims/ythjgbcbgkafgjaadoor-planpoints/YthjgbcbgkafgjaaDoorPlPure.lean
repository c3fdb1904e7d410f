/- Plain: spans of keys, what conditions leave; nothing of the program is named here. -/
import Derived.Test.YthjgbcbgkafgjaaDoorPlMem
import Derived.Test.YthjgbcbgkafgjaaDoorPlRef
namespace Go.Proofs.YthjgbcbgkafgjaaDoor
open Go.RowKit
set_option linter.unusedVariables false
set_option linter.unusedSimpArgs false
set_option maxRecDepth 20000

/-- A span: from, to, whether it ends. -/
structure Spn where
  a : List UInt8
  b : List UInt8
  en : Bool

def allP : Spn := ⟨[], [], false⟩
def noneP : Spn := ⟨[], [], true⟩

/-- Is a key within? -/
def Spn.has (s : Spn) (key : List UInt8) : Bool := !Op.bytesLess key s.a && (!s.en || Op.bytesLess key s.b)

/-- What two have in common. -/
def meetA (s t : Spn) : List UInt8 := if Op.bytesLess s.a t.a then t.a else s.a
def meetB (s t : Spn) : List UInt8 := if s.en then (if t.en then (if Op.bytesLess t.b s.b then t.b else s.b) else s.b) else (if t.en then t.b else [])
def meetP (s t : Spn) : Spn := ⟨meetA s t, meetB s t, s.en || t.en⟩

def isCol (x : Ex) (col : Int) : Bool := match x with | .mk k _ _ _ v _ => decide (k = 2) && eqv v ⟨1, col, []⟩
def isVal (x : Ex) : Bool := match x with | .mk k _ _ _ v _ => decide (k = 1) && decide (rightV v = 0)
def valX (x : Ex) : Vl := match x with | .mk _ _ _ _ v _ => v
def mirP (op : Int) : Int := if op = 5 then 7 else if op = 6 then 8 else if op = 7 then 5 else if op = 8 then 6 else op

/-- The span of a test against a value. -/
def testP (op : Int) (v : Vl) : Spn :=
  if v.k = 0 then noneP else if op = 3 then ⟨keyV v, keyV v ++ [0], true⟩ else if op = 5 then ⟨[], keyV v, true⟩ else if op = 6 then ⟨[], keyV v ++ [0], true⟩ else if op = 7 then ⟨keyV v ++ [0], [], false⟩ else ⟨keyV v, [], false⟩

/-- The span of a condition that is no deeper than d. -/
def spanD : Nat → Ex → Int → Spn
  | 0, _, _ => allP
  | d + 1, .mk k op _ _ _ xs, col =>
    if k = 3 then
      match xs with
      | [a, b] =>
        if op = 2 then meetP (spanD d a col) (spanD d b col)
        else if op < 3 ∨ 8 < op ∨ op = 4 then allP
        else if (isCol a col && isVal b) = true then testP op (valX b)
        else if (isCol b col && isVal a) = true then testP (mirP op) (valX a)
        else allP
      | _ => allP
    else allP

/-- Few parts, not too deep? -/
def fewP : Nat → Ex → Bool
  | 0, _ => false
  | d + 1, .mk _ _ _ _ _ xs => decide (xs.length ≤ 3) && xs.all (fewP d)

theorem few_mem {d : Nat} {k op : Int} {tb nm : List UInt8} {v : Vl} {xs : List Ex} (h : fewP (d + 1) (.mk k op tb nm v xs) = true) : xs.length ≤ 3 ∧ ∀ x ∈ xs, fewP d x = true := by
  simp only [fewP, Bool.and_eq_true, decide_eq_true_eq, List.all_eq_true] at h
  exact h

theorem less_behind : ∀ a b : List UInt8, Op.bytesLess a (b ++ [0]) = !Op.bytesLess b a
  | [], [] => rfl
  | [], y :: b => rfl
  | [x], [] => by
    have h0 : ¬ x < 0 := fun h => absurd h (by simp)
    by_cases hx : x = 0
    · subst hx; rfl
    · have : 0 < x := zero_lt x hx
      simp [Op.bytesLess, h0, this]
  | x :: y :: a, [] => by
    have h0 : ¬ x < 0 := fun h => absurd h (by simp)
    by_cases hx : x = 0
    · subst hx
      simp [Op.bytesLess]
    · have : 0 < x := zero_lt x hx
      simp [Op.bytesLess, h0, this]
  | x :: a, y :: b => by
    have ih := less_behind a b
    simp only [List.cons_append, Op.bytesLess]
    by_cases h1 : x < y
    · have h2 : ¬ y < x := fun h => absurd (UInt8.lt_trans h1 h) (UInt8.lt_irrefl _)
      have h3 : (y == x) = false := by
        rw [beq_eq_false_iff_ne]; intro e; subst e; exact absurd h1 (UInt8.lt_irrefl _)
      simp [h1, h2, h3]
    · by_cases h2 : y < x
      · have h3 : (x == y) = false := by
          rw [beq_eq_false_iff_ne]; intro e; subst e; exact h1 h2
        simp [h1, h2, h3]
      · have : x = y := UInt8.le_antisymm (UInt8.not_lt.1 h2) (UInt8.not_lt.1 h1)
        subst this
        simp [UInt8.lt_irrefl, ih]

theorem less_asymmP {a b : List UInt8} (h : Op.bytesLess a b = true) : Op.bytesLess b a = false := by
  cases hc : Op.bytesLess b a with
  | false => rfl
  | true => have := less_trans _ _ _ h hc; rw [less_self] at this; cases this

/-- Not below the greater is not below either. -/
theorem le_max (s t key : List UInt8) : (!Op.bytesLess key (if Op.bytesLess s t then t else s)) = (!Op.bytesLess key s && !Op.bytesLess key t) := by
  by_cases h : Op.bytesLess s t = true
  · rw [if_pos h]
    cases h1 : Op.bytesLess key t with
    | true => simp
    | false =>
      cases h2 : Op.bytesLess key s with
      | false => rfl
      | true => have := less_trans _ _ _ h2 h; rw [h1] at this; cases this
  · rw [if_neg h]
    cases h1 : Op.bytesLess key s with
    | true => rfl
    | false =>
      cases h2 : Op.bytesLess key t with
      | false => rfl
      | true =>
        exfalso
        cases h3 : Op.bytesLess s key with
        | true => exact h (less_trans _ _ _ h3 h2)
        | false =>
          have := less_neither _ _ h3 h1
          subst this
          exact h h2

theorem lt_min (s t key : List UInt8) : Op.bytesLess key (if Op.bytesLess t s then t else s) = (Op.bytesLess key s && Op.bytesLess key t) := by
  by_cases h : Op.bytesLess t s = true
  · rw [if_pos h]
    cases h1 : Op.bytesLess key t with
    | false => simp
    | true => rw [less_trans _ _ _ h1 h]; rfl
  · rw [if_neg h]
    cases h1 : Op.bytesLess key s with
    | false => rfl
    | true =>
      cases h2 : Op.bytesLess key t with
      | true => rfl
      | false =>
        exfalso
        cases h3 : Op.bytesLess t key with
        | true => exact h (less_trans _ _ _ h3 h1)
        | false =>
          have := less_neither _ _ h2 h3
          subst this
          exact h h1

/-- P15.5. -/
theorem meet_has (s t : Spn) (key : List UInt8) : (meetP s t).has key = (s.has key && t.has key) := by
  have h1 := le_max s.a t.a key
  have h2 := lt_min s.b t.b key
  obtain ⟨sa, sb, se⟩ := s
  obtain ⟨ta, tb, te⟩ := t
  simp only [Spn.has, meetP, meetA, meetB] at h1 h2 ⊢
  rw [h1]
  cases se <;> cases te <;> simp
  · generalize Op.bytesLess key sa = p, Op.bytesLess key ta = q, Op.bytesLess key tb = r
    cases p <;> cases q <;> cases r <;> rfl
  · generalize Op.bytesLess key sa = p, Op.bytesLess key ta = q, Op.bytesLess key sb = r
    cases p <;> cases q <;> cases r <;> rfl
  · rw [h2]
    generalize Op.bytesLess key sa = p, Op.bytesLess key ta = q, Op.bytesLess key sb = r, Op.bytesLess key tb = u
    cases p <;> cases q <;> cases r <;> cases u <;> rfl

theorem meet_comm (s t : Spn) : meetP s t = meetP t s := by
  have key : ∀ x y : List UInt8, (if Op.bytesLess x y then y else x) = (if Op.bytesLess y x then x else y) := fun x y => by
    cases h1 : Op.bytesLess x y with
    | true => rw [less_asymmP h1]; rfl
    | false =>
      cases h2 : Op.bytesLess y x with
      | true => rfl
      | false => have := less_neither _ _ h1 h2; subst this; rfl
  obtain ⟨sa, sb, se⟩ := s
  obtain ⟨ta, tb, te⟩ := t
  simp only [meetP, meetA, meetB, Spn.mk.injEq]
  refine ⟨key _ _, ?_, Bool.or_comm _ _⟩
  have key2 : ∀ x y : List UInt8, (if Op.bytesLess y x then y else x) = (if Op.bytesLess x y then x else y) := fun x y => by
    cases h1 : Op.bytesLess x y with
    | true => rw [less_asymmP h1]; rfl
    | false =>
      cases h2 : Op.bytesLess y x with
      | true => rfl
      | false => have := less_neither _ _ h1 h2; subst this; rfl
  cases se <;> cases te
  · rfl
  · rfl
  · rfl
  · exact key2 sb tb

theorem all_has (key : List UInt8) : allP.has key = true := by
  unfold Spn.has allP
  cases key <;> rfl

theorem none_has (key : List UInt8) : noneP.has key = false := by
  unfold Spn.has noneP
  cases key <;> rfl

theorem less_nil : ∀ k : List UInt8, Op.bytesLess k [] = false
  | [] => rfl
  | _ :: _ => rfl

/-- P15.2: which values' keys a test leaves. -/
theorem test_has (op : Int) (v x : Vl) (hv : rightV v = 0) (hx : rightV x = 0) (nv : -9223372036854775808 ≤ v.n ∧ v.n ≤ 9223372036854775807) (nx : -9223372036854775808 ≤ x.n ∧ x.n ≤ 9223372036854775807) (h0 : v.k ≠ 0) (ho : op = 3 ∨ op = 5 ∨ op = 6 ∨ op = 7 ∨ op = 8) :
    (testP op v).has (keyV x) = if op = 5 then decide (cmpV x v < 0) else if op = 6 then decide (cmpV x v ≤ 0) else if op = 7 then decide (0 < cmpV x v) else if op = 8 then decide (0 ≤ cmpV x v) else decide (cmpV x v = 0) := by
  have hback := cmpV_back x v
  by_cases hne : x = v
  · subst hne
    have hc : cmpV x x = 0 := by
      rcases cmpV_spec x x with h | h | h
      · exact absurd h.2 (lv_irrefl x)
      · exact h.1
      · exact absurd h.2 (lv_irrefl x)
    rcases ho with rfl | rfl | rfl | rfl | rfl <;> simp [testP, Spn.has, h0, hc, less_self, less_nil, less_behind]
  · have e1 := key_lessV x v [] [] hx hv nx nv hne
    have e2 := key_lessV v x [] [] hv hx nv nx (Ne.symm hne)
    simp only [List.append_nil] at e1 e2
    have hc : cmpV x v ≠ 0 := fun h => by
      rcases cmpV_spec x v with h' | h' | h'
      · omega
      · exact hne h'.2
      · omega
    have e3 : decide (cmpV v x < 0) = decide (0 < cmpV x v) := by
      rw [hback]
      by_cases h : 0 < cmpV x v
      · rw [decide_eq_true h]; exact decide_eq_true (by omega)
      · rw [decide_eq_false h]; exact decide_eq_false (by omega)
    rw [e3] at e2
    clear e3 hback
    rcases Int.lt_or_gt_of_ne hc with h | h
    · have g1 : ¬ 0 < cmpV x v := by omega
      have g2 : cmpV x v ≤ 0 := by omega
      have g3 : ¬ 0 ≤ cmpV x v := by omega
      rcases ho with rfl | rfl | rfl | rfl | rfl <;> simp [testP, Spn.has, h0, less_nil, less_behind, e1, e2, h, hc, g1, g2, g3]
    · have h' : 0 < cmpV x v := h
      have g1 : ¬ cmpV x v < 0 := by omega
      have g2 : ¬ cmpV x v ≤ 0 := by omega
      have g3 : 0 ≤ cmpV x v := by omega
      rcases ho with rfl | rfl | rfl | rfl | rfl <;> simp [testP, Spn.has, h0, less_nil, less_behind, e1, e2, h', hc, g1, g2, g3]
end Go.Proofs.YthjgbcbgkafgjaaDoor
