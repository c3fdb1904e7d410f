/- Contracts of the leaf's search: page.find, slices.BinarySearchFunc. -/
import Derived.Test.YtjfipejfejmlaaaBtLow
namespace Go.Proofs.Ytjfipejfejmlaaa
open Go.RowKit Go.Shelf
set_option linter.unusedVariables false
set_option linter.unusedSimpArgs false
set_option maxRecDepth 20000

theorem cmp_neg (a b : List UInt8) : decide (Lib.compareBytes a b < 0) = Op.bytesLess a b := by
  have h := cmp_less a b
  rw [← Bool.not_inj_iff, ← h, Bool.eq_iff_iff]
  simp

theorem cmp_zero : ∀ a b : List UInt8, Lib.compareBytes a b = 0 ↔ a = b
  | [], [] => by simp [Lib.compareBytes]
  | [], _ :: _ => by simp [Lib.compareBytes]
  | _ :: _, [] => by simp [Lib.compareBytes]
  | x :: a, y :: b => by
    have ih := cmp_zero a b
    simp only [Lib.compareBytes]
    by_cases h1 : x < y
    · have : x ≠ y := fun e => by subst e; exact absurd h1 (UInt8.lt_irrefl _)
      simp [h1, this]
    · by_cases h2 : y < x
      · have : x ≠ y := fun e => by subst e; exact absurd h2 (UInt8.lt_irrefl _)
        simp [h1, h2, this]
      · have : x = y := UInt8.le_antisymm (UInt8.not_lt.1 h2) (UInt8.not_lt.1 h1)
        subst this
        simp [UInt8.lt_irrefl, ih]

/-- Below the place of a key all keys are below it, from there on none. -/
theorem atK_cut {L : List Ent} (hr : Tri.Rises L) (key : List UInt8) (j : Nat) (e : Ent) (hj : L[j]? = some e) : Op.bytesLess e.1 key = decide (j < atK L key) := by
  by_cases h : j < atK L key
  · rw [atK_lt L key j e hj h]; simp [h]
  · rw [decide_eq_false h]
    have hl := (List.getElem?_eq_some_iff.1 hj).1
    have hm : atK L key < L.length := by omega
    have h0 := atK_at L key L[atK L key] (List.getElem?_eq_getElem hm)
    by_cases he : atK L key = j
    · subst he
      rw [List.getElem?_eq_getElem hm] at hj
      cases hj
      exact h0
    · have h1 := (List.pairwise_iff_getElem.1 hr) (atK L key) j hm hl (by omega)
      have h2 : L[j] = e := by rw [List.getElem?_eq_getElem hl] at hj; cases hj; rfl
      rw [h2] at h1
      cases hc : Op.bytesLess e.1 key with
      | false => rfl
      | true => have := less_trans _ _ _ h1 hc; rw [h0] at this; cases this

set_option maxHeartbeats 1000000 in
theorem find1_any (kv vv cv : Value) (k v key : List UInt8) (w : World) (hk : Says w kv k) (hv : Says w vv v) (hc : Says w cv key) :
    Calls Try.prog 46 #[.agg #[kv, vv], cv] w fun e w' => e = .returned (.int .i64 (Lib.compareBytes k key)) ∧ Below w.heap.size w w' := by
  obtain ⟨a1, c1, rfl, _⟩ := id hk
  obtain ⟨a2, c2, rfl, _⟩ := id hv
  have hb : Below w.heap.size w (w.alloc (.cells #[.slice a1 k.length c1, .slice a2 v.length c2] 46)) := (Below.refl _ _).alloc (Nat.le_refl _) _
  have hcmp := compare_any _ _ _ _ k key (w.alloc (.cells #[.slice a1 k.length c1, .slice a2 v.length c2] 46)) (hk.new hb) (hc.new hb)
  have hr := cmp_range k key
  generalize Lib.compareBytes k key = r at *
  clear hk hv hc
  go_enter Try.func46, Try.ntmps46
  go_wp2_with (go_at_call 39; refine hcmp.mono ?_; rintro e w' ⟨rfl, rfl⟩)
  go_ret
  exact ⟨rfl, hb⟩

set_option maxHeartbeats 4000000 in
theorem sfind_any (v cv : Value) (xs : List EntV) (key : List UInt8) (w : World) (hE : Ents w.heap.size w v xs) (hc : Says w cv key) (hr : Tri.Rises (xs.map EntV.ent)) (hlen : xs.length < 1000000) :
    Calls Try.prog 45 #[v, cv, .func (.func 46) #[] #[]] w fun e w' => e = .returned (.tuple #[.int .i64 (atK (xs.map EntV.ent) key), .bool (hitK (xs.map EntV.ent) key)]) ∧ Below w.heap.size w w' := by
  obtain ⟨a, c, rfl, hc1, hc2, _⟩ := id hE
  unfold maxLen at hc2
  have hle := atK_le (xs.map EntV.ent) key
  rw [List.length_map] at hle
  have HCUT := hid (atK_cut hr key)
  have HHIT : Hid (∀ x, xs[atK (xs.map EntV.ent) key]? = some x → hitK (xs.map EntV.ent) key = decide (x.k = key)) := hid (fun x hx => by
    unfold hitK
    rw [ent_at rfl hx, Bool.eq_iff_iff]
    simp)
  have HEND : Hid (xs.length ≤ atK (xs.map EntV.ent) key → hitK (xs.map EntV.ent) key = false) := hid (fun hx => by
    unfold hitK
    rw [List.getElem?_eq_none (by simpa using hx)]
    simp)
  generalize atK (xs.map EntV.ent) key = m at *
  generalize hitK (xs.map EntV.ent) key = hit at *
  have HE := hid hE
  have HC := hid hc
  clear hE hc hr
  go_enter Try.func45, Try.ntmps45
  go_wp2
  go_loopg [9, 10] xs.length (fun kx s9 s10 wr => ∃ (lo hi : Nat), s9 = .int .i64 lo ∧ s10 = .int .i64 hi ∧ lo ≤ m ∧ m ≤ hi ∧ hi ≤ xs.length ∧ hi - lo ≤ kx ∧ Hid (Below w.heap.size w wr))
  case atStart => exact ⟨0, xs.length, rfl, rfl, Nat.zero_le _, hle, Nat.le_refl _, by omega, hid (Below.refl _ _)⟩
  case round =>
    obtain ⟨lo, hi, rfl, rfl, hl, hh, hin, hg, HB⟩ := hrel
    by_cases hlt : lo < hi
    · have hq1 : (lo + hi) / 2 < hi := by omega
      have hq2 : lo ≤ (lo + hi) / 2 := by omega
      have hq3 : (((lo + hi) / 2 : Nat) : Int) = ((lo : Int) + (hi : Int)) / 2 := by omega
      generalize hq : (lo + hi) / 2 = q at *
      obtain ⟨b, off, ka, kc, va, vc, kb, vb, rfl, hb, hx, c0, c1, s1, s2⟩ := (HE.out.new HB.out).at q (by omega)
      have hf := find1_any _ _ cv kb vb key wr s1 s2 (HC.out.new HB.out)
      have hcut := HCUT.out q _ (ent_at rfl hx)
      simp only at hcut
      rw [← cmp_neg] at hcut
      have hrng := cmp_range kb key
      generalize Lib.compareBytes kb key = r at *
      have hq0 : (0 : Int) ≤ (q : Int) := by omega
      have hqn : (q : Int) < (xs.length : Int) := by omega
      clear hx s1 s2
      by_cases hp : q < m
      · have hr0 : r < 0 := by simpa [hp] using hcut
        clear hcut
        go_wp2_with (go_at_call 46; refine hf.mono ?_; clear hf; rintro e w' ⟨rfl, hb'⟩)
        go_roundg (hi - (q + 1))
        case measure => omega
        case rel => exact ⟨q + 1, hi, by go_num, rfl, by omega, hh, hin, by omega, htr HB hb'⟩
      · have hr0 : 0 ≤ r := by simpa [hp] using hcut
        clear hcut
        go_wp2_with (go_at_call 46; refine hf.mono ?_; clear hf; rintro e w' ⟨rfl, hb'⟩)
        go_roundg (q - lo)
        case measure => omega
        case rel => exact ⟨lo, q, rfl, by first | rfl | go_num, hl, by omega, by omega, Nat.le_refl _, htr HB hb'⟩
    · obtain rfl : hi = lo := by omega
      obtain rfl : m = hi := by omega
      by_cases hend : m < xs.length
      · obtain ⟨b, off, ka, kc, va, vc, kb, vb, rfl, hb, hx, c0, c1, s1, s2⟩ := (HE.out.new HB.out).at m hend
        have hf := find1_any _ _ cv kb vb key wr s1 s2 (HC.out.new HB.out)
        have hhit := HHIT.out _ hx
        simp only at hhit
        have hz : decide (Lib.compareBytes kb key = 0) = hit := by rw [hhit]; exact decide_eq_decide.2 (cmp_zero kb key)
        have hrng := cmp_range kb key
        generalize Lib.compareBytes kb key = r at *
        have hq0 : (0 : Int) ≤ (m : Int) := by omega
        have hqn : (m : Int) < (xs.length : Int) := by omega
        clear hx s1 s2 hhit
        go_wp2_with (go_at_call 46; refine hf.mono ?_; clear hf; rintro e w' ⟨rfl, hb'⟩)
        go_ret2
        refine ⟨?_, (htr HB hb').out⟩
        rw [← hz]
        rfl
      · have he := HEND.out (by omega)
        subst he
        have hqn : ¬ (m : Int) < (xs.length : Int) := by omega
        have hqn2 : (xs.length : Int) ≤ (m : Int) := by omega
        go_wp2_with fail
        go_ret2
        exact ⟨rfl, HB.out⟩

set_option maxHeartbeats 1000000 in
theorem find_any (pb : Nat) (sv fv cv : Value) (xs : List EntV) (key : List UInt8) (w : World) (hp : w.heap[pb]? = some (.cells (pcs 0 sv fv) 66 (0, 0))) (hE : Ents w.heap.size w sv xs) (hc : Says w cv key) (hr : Tri.Rises (xs.map EntV.ent)) (hlen : xs.length < 1000000) :
    Calls Try.prog 26 #[.pointer (some ⟨pb, 0, none⟩), cv] w fun e w' => e = .returned (.tuple #[.int .i64 (atK (xs.map EntV.ent) key), .bool (hitK (xs.map EntV.ent) key)]) ∧ Below w.heap.size w w' := by
  have hs := sfind_any sv cv xs key w hE hc hr hlen
  obtain ⟨a, c, rfl, _⟩ := hE
  obtain ⟨a2, c2, rfl, _⟩ := hc
  have c0 : w.cell? ⟨pb, 0, none⟩ = some (.slice a xs.length c) := by rw [cell_of_row _ _ _ _ _ _ hp]; rfl
  generalize atK (xs.map EntV.ent) key = m at *
  generalize hitK (xs.map EntV.ent) key = hit at *
  go_enter Try.func26, Try.ntmps26
  go_wp2_with (go_at_call 45; refine hs.mono ?_; clear hs; rintro e w' ⟨rfl, hb⟩)
  go_ret2
  exact ⟨rfl, hb⟩
end Go.Proofs.Ytjfipejfejmlaaa
