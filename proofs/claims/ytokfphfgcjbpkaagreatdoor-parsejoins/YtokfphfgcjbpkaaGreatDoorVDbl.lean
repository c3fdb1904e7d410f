/- Plain facts on literals: each quote doubled. -/
import Derived.Lib.ReplaceLaws
import Derived.Lib.IndexBytes
namespace Go.Proofs.YtokfphfgcjbpkaaGreatDoor
set_option linter.unusedVariables false

/-- A text with each quote doubled. -/
def dbl (s : List UInt8) : List UInt8 := s.flatMap fun c => if c = 39 then [39, 39] else [c]

theorem dbl_append (a b : List UInt8) : dbl (a ++ b) = dbl a ++ dbl b := by simp [dbl]

theorem dbl_none : ∀ (s : List UInt8), (∀ k : Nat, s[k]? ≠ some 39) → dbl s = s
  | [], _ => rfl
  | c :: s, h => by
    have hc : c ≠ 39 := fun e => h 0 (by simp [e])
    have ih := dbl_none s fun k => by simpa using h (k + 1)
    have e : dbl (c :: s) = [c] ++ dbl s := by simp [dbl, hc]
    rw [e, ih]
    rfl

theorem dbl_le (s : List UInt8) : (dbl s).length ≤ 2 * s.length := by
  induction s with
  | nil => simp [dbl]
  | cons c s ih =>
    have e : dbl (c :: s) = (if c = 39 then [39, 39] else [c]) ++ dbl s := by simp [dbl]
    rw [e, List.length_append, List.length_cons]
    split <;> simp <;> omega

theorem replaceK_dbl : ∀ (k : Nat) (s : List UInt8), Lib.count s [39] ≤ k → Lib.replaceK [39] [39, 39] k s = dbl s := by
  have miss : ∀ s : List UInt8, Lib.index s [39] = -1 → dbl s = s := fun s h => by
    rw [Lib.index_one] at h
    exact dbl_none s (Lib.indexByte_none h)
  have hit : ∀ (s : List UInt8) (i : Nat), Lib.index s [39] = i → Lib.count s [39] = Lib.count (s.drop (i + 1)) [39] + 1 ∧ dbl s = s.take i ++ [39, 39] ++ dbl (s.drop (i + 1)) := fun s i h => by
    refine ⟨by have := Lib.count_hit (s := s) (sub := [39]) (i := i) (by simp) h; simpa [Nat.add_comm] using this, ?_⟩
    rw [Lib.index_one] at h
    obtain ⟨h1, h2⟩ := Lib.indexByte_some h
    have hi : i < s.length := (List.getElem?_eq_some_iff.1 h1).1
    have e : s = s.take i ++ (39 :: s.drop (i + 1)) := by
      have e1 := (List.take_append_drop i s).symm
      rw [List.drop_eq_getElem_cons hi, (List.getElem?_eq_some_iff.1 h1).2] at e1
      exact e1
    have e2 : dbl (s.take i) = s.take i := dbl_none _ fun k hk => by
      rw [List.getElem?_take] at hk
      split at hk
      · rename_i hlt
        exact h2 k hlt hk
      · cases hk
    have e3 : dbl (39 :: s.drop (i + 1)) = [39, 39] ++ dbl (s.drop (i + 1)) := by simp [dbl]
    conv => lhs; rw [e]
    rw [dbl_append, e2, e3, List.append_assoc]
  intro k
  induction k with
  | zero =>
    intro s h
    rw [Lib.replaceK]
    have hge := Lib.index_ge s [39]
    by_cases hm : Lib.index s [39] = -1
    · exact (miss s hm).symm
    · obtain ⟨i, hi⟩ : ∃ i : Nat, Lib.index s [39] = i := ⟨(Lib.index s [39]).toNat, by omega⟩
      have := (hit s i hi).1
      omega
  | succ k ih =>
    intro s h
    have hge := Lib.index_ge s [39]
    by_cases hm : Lib.index s [39] = -1
    · rw [miss s hm, Lib.replaceK, if_pos (by rw [hm]; rfl)]
    · obtain ⟨i, hi⟩ : ∃ i : Nat, Lib.index s [39] = i := ⟨(Lib.index s [39]).toNat, by omega⟩
      obtain ⟨h1, h2⟩ := hit s i hi
      rw [Lib.replaceK_hit _ _ k s i hi, h2, ih _ (by simp; omega)]
      rfl

theorem replaceAll_dbl (s : List UInt8) : Lib.replaceAll s [39] [39, 39] = dbl s := by
  unfold Lib.replaceAll Lib.replace
  rw [if_neg (by decide)]
  have e : Lib.replaceNum s [39] (-1) = Lib.count s [39] := by
    unfold Lib.replaceNum
    rw [if_pos (by left; decide)]
  rw [e]
  exact replaceK_dbl _ s (Nat.le_refl _)
end Go.Proofs.YtokfphfgcjbpkaaGreatDoor
