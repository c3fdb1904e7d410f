/- Bytes of a proof, and back: Parse's answer at them. -/
import Derived.Test.YtmafaioohiaenaaDoorParseF
namespace Go.Proofs.YtmafaioohiaenaaDoor
open Go.RowKit Go.Shelf
set_option linter.unusedVariables false
set_option linter.unusedSimpArgs false
set_option maxRecDepth 20000

theorem i64of_u64of (n : Int) (h1 : -9223372036854775808 ≤ n) (h2 : n ≤ 9223372036854775807) : i64of (u64of n) = n := by
  unfold i64of wrap64 u64of
  omega

theorem num_beZ (n : Int) : num (be (u64of n) 8) = u64of n := by
  rw [num_be, Nat.mod_eq_of_lt (u64of_lt n)]

theorem stepOf_stepB (s : Zst) (h : ZOk s) : stepOfZ (stepB s) = some s := by
  obtain ⟨n, b, d⟩ := s
  have hl : (be (u64of n) 8).length = 8 := be_length _ _
  have h8 : (stepB (n, b, d))[8]? = some (sideZ b) := by
    unfold stepB
    rw [List.getElem?_append_right (by rw [hl]; exact Nat.le_refl _), hl]
    rfl
  have h9 : (stepB (n, b, d)).drop 9 = d := by
    unfold stepB
    rw [List.drop_append, hl, List.drop_eq_nil_of_le (by rw [hl]; omega)]
    rfl
  have ht : (stepB (n, b, d)).take 8 = be (u64of n) 8 := by
    unfold stepB
    rw [List.take_append, hl, List.take_of_length_le (by rw [hl]; exact Nat.le_refl _)]
    simp
  have hn : (tnum (stepB (n, b, d)) 0).1 = n := by
    unfold tnum
    rw [if_neg (by rw [stepB_length h]; omega), ht, num_beZ]
    exact i64of_u64of n h.lo h.hi
  unfold stepOfZ
  rw [h8, h9, hn, if_pos ⟨stepB_length h, by cases b <;> decide⟩]
  cases b <;> rfl

theorem stepsOf_map : ∀ (L : List Zst), (∀ s ∈ L, ZOk s) → stepsOfZ (L.map stepB) = some L
  | [], _ => rfl
  | s :: r, h => by
    simp only [List.map_cons, stepsOfZ]
    rw [stepOf_stepB s (h s (by simp)), stepsOf_map r (fun x hx => h x (by simp [hx]))]
    rfl

theorem be_one_zero : be (u64of 0) 8 ≠ be (u64of 1) 8 := by decide

theorem ofRow_blobs (p : Prf) (hm : p.may = true) (hok : ∀ s ∈ p.st, ZOk s) : ofRowZ p.blobs = some p := by
  obtain ⟨no, k, v, st⟩ := p
  cases no with
  | true =>
    simp only [Prf.may, if_true, decide_eq_true_eq] at hm
    obtain ⟨h1, h2, h3⟩ := hm
    rw [List.length_eq_zero_iff] at h1 h2 h3
    subst h1 h2 h3
    simp [Prf.blobs, ofRowZ]
  | false =>
    simp only [Prf.blobs, Bool.false_eq_true, if_false, ofRowZ]
    rw [if_neg (by simp), if_neg (by simp)]
    simp only [List.drop_succ_cons, List.drop_zero]
    rw [stepsOf_map st hok]
    simp

/-- The bytes of a proof that may be are that proof. -/
theorem parse_blobs (p : Prf) (hm : p.may = true) (hok : ∀ s ∈ p.st, ZOk s) : parseZ (rowBytes p.blobs) = (p, 0) := by
  obtain ⟨h1, h2⟩ := blobs_fit p hm hok
  have ht := trow_row p.blobs [] h1 h2
  rw [List.append_nil] at ht
  unfold parseZ
  rw [ht, if_neg (by simp), ofRow_blobs p hm hok, if_neg (by simp [hm])]
  rfl
end Go.Proofs.YtmafaioohiaenaaDoor
