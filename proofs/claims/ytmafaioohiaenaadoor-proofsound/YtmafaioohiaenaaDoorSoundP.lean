/- A proof that holds follows the tree, or two unlike texts have one digest. Nothing of the program is named here. -/
import Derived.Test.YtmafaioohiaenaaDoorCheckG
import Derived.Test.YtmafaioohiaenaaDoorRef4B
namespace Go.Proofs.YtmafaioohiaenaaDoor
open Go.RowKit Go.Shelf
set_option linter.unusedVariables false
set_option linter.unusedSimpArgs false
set_option maxRecDepth 20000

/-- All texts that are summed for a tree. -/
def textsT : Tri → List (List UInt8)
  | .leaf k v => [leafZ k v]
  | .fork p l r => textsT l ++ textsT r ++ [forkZ p (rootT l) (rootT r)]

def textsO : Option Tri → List (List UInt8)
  | none => [noneZ]
  | some t => textsT t

/-- No two unlike ones of these have one digest. -/
def NoClash (X : List (List UInt8)) : Prop := ∀ a ∈ X, ∀ b ∈ X, sha a = sha b → a = b

theorem rowBytes_inj {a b : List (List UInt8)} (ha : a.length ≤ 4096) (hb : b.length ≤ 4096) (fa : fits a) (fb : fits b) (h : rowBytes a = rowBytes b) : a = b := by
  have h1 := trow_row a [] ha fa
  have h2 := trow_row b [] hb fb
  rw [h, h2] at h1
  simp only [Prod.mk.injEq] at h1
  exact h1.2.1.symm

theorem text_is (name : List UInt8) (rows : List (List UInt8)) (h1 : name.length ≤ 16) (h2 : rows.length < 4096) (h3 : ∀ r ∈ rows, r.length ≤ 65536) : (textOf name rows).2 = rowBytes (name :: rows) := by rw [textOf_fits name rows h1 h2 h3]

theorem text_inj {n1 n2 : List UInt8} {a b : List (List UInt8)} (h1 : n1.length ≤ 16) (h2 : n2.length ≤ 16) (l1 : a.length < 4096) (l2 : b.length < 4096) (f1 : ∀ r ∈ a, r.length ≤ 65536) (f2 : ∀ r ∈ b, r.length ≤ 65536) (h : (textOf n1 a).2 = (textOf n2 b).2) : n1 = n2 ∧ a = b := by
  rw [text_is n1 a h1 l1 f1, text_is n2 b h2 l2 f2] at h
  have := rowBytes_inj (by simp; omega) (by simp; omega) (fun r hr => by
    rcases List.mem_cons.1 hr with rfl | hr
    · omega
    · exact f1 r hr) (fun r hr => by
    rcases List.mem_cons.1 hr with rfl | hr
    · omega
    · exact f2 r hr) h
  simpa using this

theorem two_fit {k v : List UInt8} (hk : k.length ≤ 120) (hv : v.length ≤ 1200) : ∀ r ∈ [k, v], r.length ≤ 65536 := fun r hr => by
  simp at hr
  rcases hr with rfl | rfl <;> omega

theorem three_fit {i : Int} {a b : List UInt8} (ha : a.length = 32) (hb : b.length = 32) : ∀ r ∈ [be (u64of i) 8, a, b], r.length ≤ 65536 := fun r hr => by
  simp at hr
  rcases hr with rfl | rfl | rfl <;> simp [be_length, ha, hb]

theorem leafZ_inj {k v k' v' : List UInt8} (hk : k.length ≤ 120) (hv : v.length ≤ 1200) (hk' : k'.length ≤ 120) (hv' : v'.length ≤ 1200) (h : leafZ k v = leafZ k' v') : k = k' ∧ v = v' := by
  have := (text_inj (by decide) (by decide) (by simp) (by simp) (two_fit hk hv) (two_fit hk' hv') h).2
  simpa using this

theorem forkZ_leafZ {i : Int} {a b k v : List UInt8} (ha : a.length = 32) (hb : b.length = 32) (hk : k.length ≤ 120) (hv : v.length ≤ 1200) : forkZ i a b ≠ leafZ k v := fun h => by
  have := (text_inj (by decide) (by decide) (by simp) (by simp) (three_fit ha hb) (two_fit hk hv) h).1
  exact absurd this (by decide)

theorem forkZ_noneZ {i : Int} {a b : List UInt8} (ha : a.length = 32) (hb : b.length = 32) : forkZ i a b ≠ noneZ := fun h => by
  have := (text_inj (by decide) (by decide) (by simp) (by simp) (three_fit ha hb) (fun r hr => by cases hr) h).1
  exact absurd this (by decide)

theorem leafZ_noneZ {k v : List UInt8} (hk : k.length ≤ 120) (hv : v.length ≤ 1200) : leafZ k v ≠ noneZ := fun h => by
  have := (text_inj (by decide) (by decide) (by simp) (by simp) (two_fit hk hv) (fun r hr => by cases hr) h).1
  exact absurd this (by decide)

theorem be8_inj {i j : Int} (hi : -9223372036854775808 ≤ i ∧ i ≤ 9223372036854775807) (hj : -9223372036854775808 ≤ j ∧ j ≤ 9223372036854775807) (h : be (u64of i) 8 = be (u64of j) 8) : i = j := by
  have h2 : num (be (u64of i) 8) = num (be (u64of j) 8) := by rw [h]
  rw [num_be, num_be] at h2
  unfold u64of at h2
  omega

theorem forkZ_inj {i j : Int} {a b c d : List UInt8} (hi : -9223372036854775808 ≤ i ∧ i ≤ 9223372036854775807) (hj : -9223372036854775808 ≤ j ∧ j ≤ 9223372036854775807) (ha : a.length = 32) (hb : b.length = 32) (hc : c.length = 32) (hd : d.length = 32) (h : forkZ i a b = forkZ j c d) : i = j ∧ a = c ∧ b = d := by
  have := (text_inj (by decide) (by decide) (by simp) (by simp) (three_fit ha hb) (three_fit hc hd) h).2
  simp only [List.cons.injEq, and_true] at this
  exact ⟨be8_inj hi hj this.1, this.2.1, this.2.2⟩

theorem top_mem (e : List UInt8) (r : List Zst) : topU e r ∈ upZ e r := by
  have := upZ_last r e
  exact List.mem_of_getLast? this

/-- Is this the text of an entry, or of none? -/
def EndsZ (e : List UInt8) : Prop := e = noneZ ∨ ∃ k v, e = leafZ k v ∧ k.length ≤ 120 ∧ v.length ≤ 1200

theorem forkZ_ends {i : Int} {a b e : List UInt8} (ha : a.length = 32) (hb : b.length = 32) (he : EndsZ e) : forkZ i a b ≠ e := fun h => by
  rcases he with rfl | ⟨k, v, rfl, hk, hv⟩
  · exact forkZ_noneZ ha hb h
  · exact forkZ_leafZ ha hb hk hv h

theorem stepZ_form (s : Zst) (hs : ZOk s) (n : List UInt8) (hn : n.length = 32) : ∃ a b, stepZ s n = forkZ s.1 a b ∧ a.length = 32 ∧ b.length = 32 ∧ (s.2.1 = true → a = s.2.2 ∧ b = n) ∧ (s.2.1 = false → a = n ∧ b = s.2.2) := by
  unfold stepZ
  cases h : s.2.1 with
  | true => exact ⟨_, _, rfl, hs.len, hn, fun _ => ⟨rfl, rfl⟩, fun h => by cases h⟩
  | false => exact ⟨_, _, rfl, hn, hs.len, fun h => (by cases h), fun _ => ⟨rfl, rfl⟩⟩

theorem leafS_shaZ (k v : List UInt8) (h : Tri.short (k, v)) : rootT (.leaf k v) = sha (leafZ k v) := ofS_sha _ _ (by decide) (by simp) (two_fit h.1 h.2)

theorem noneS_shaZ : noneS = sha noneZ := ofS_sha _ _ (by decide) (by simp) (fun r hr => by cases hr)

/-- THE STEPS FOLLOW THE TREE. -/
theorem follows (X : List (List UInt8)) (hX : NoClash X) (e key : List UInt8) (he : EndsZ e) : ∀ (t : Tri) (L : List Zst), t.WF → (∀ s ∈ L, ZOk s) → (∀ a ∈ textsT t, a ∈ X) → (∀ a ∈ upZ e L.reverse, a ∈ X) → sha (topU e L.reverse) = rootT t → leadsZ key L = true → e = leafZ (t.near key).1 (t.near key).2
  | .leaf k v, L, hW, hok, hT, hU, hr, hl => by
    have h1 : rootT (.leaf k v) = sha (leafZ k v) := leafS_shaZ k v hW
    rw [h1] at hr
    have h2 := hX _ (hU _ (top_mem e L.reverse)) _ (hT _ (by simp [textsT])) hr
    cases L with
    | nil => exact h2
    | cons s L =>
      rw [List.reverse_cons, topU_snoc] at h2
      obtain ⟨a, b, h3, ha, hb, _⟩ := stepZ_form s (hok s (by simp)) _ (sha_length (topU e L.reverse))
      rw [h3] at h2
      exact absurd h2 (forkZ_leafZ ha hb hW.1 hW.2)
  | .fork p l r, L, hW, hok, hT, hU, hr, hl => by
    have hp := Tri.place_bound p l r hW
    have h1 : rootT (.fork p l r) = sha (forkZ p (rootT l) (rootT r)) := forkS_sha p _ _ (rootT_length l) (rootT_length r)
    rw [h1] at hr
    have h2 := hX _ (hU _ (top_mem e L.reverse)) _ (hT _ (by simp [textsT])) hr
    cases L with
    | nil => exact absurd h2.symm (forkZ_ends (rootT_length l) (rootT_length r) he)
    | cons s L =>
      rw [List.reverse_cons, topU_snoc] at h2
      have hs := hok s (by simp)
      obtain ⟨a, b, h3, ha, hb, ht1, ht0⟩ := stepZ_form s hs _ (sha_length (topU e L.reverse))
      rw [h3] at h2
      obtain ⟨e1, e2, e3⟩ := forkZ_inj ⟨hs.lo, hs.hi⟩ ⟨by omega, by omega⟩ ha hb (rootT_length l) (rootT_length r) h2
      have hU' : ∀ a ∈ upZ e L.reverse, a ∈ X := fun a ha => hU a (by rw [List.reverse_cons, upZ_snoc]; exact List.mem_append_left _ ha)
      have hok' : ∀ x ∈ L, ZOk x := fun x hx => hok x (by simp [hx])
      unfold leadsZ at hl
      rw [List.all_cons, Bool.and_eq_true] at hl
      have hb1 : s.2.1 = bit key p := by
        have := hl.1
        rw [e1] at this
        simpa [bitI_nat] using this
      obtain ⟨hWl, hWr, _⟩ := hW
      cases hd : s.2.1 with
      | true =>
        rw [hd] at hb1
        have ih := follows X hX e key he r L hWr hok' (fun a ha => hT a (by simp [textsT, ha])) hU' (by rw [← e3, (ht1 hd).2]) hl.2
        simp only [Tri.near, ← hb1, if_true]
        exact ih
      | false =>
        rw [hd] at hb1
        have ih := follows X hX e key he l L hWl hok' (fun a ha => hT a (by simp [textsT, ha])) hU' (by rw [← e2, (ht0 hd).1]) hl.2
        simp only [Tri.near, ← hb1]
        exact ih

theorem may_ends (p : Prf) (h : p.may = true) : EndsZ p.endZ := by
  unfold Prf.may at h
  unfold Prf.endZ
  cases hn : p.no with
  | true => exact .inl rfl
  | false =>
    rw [hn] at h
    simp only [Bool.false_eq_true, if_false, Bool.and_eq_true, decide_eq_true_eq] at h
    exact .inr ⟨p.k, p.v, rfl, h.1, h.2.1⟩

/-- WHAT HOLDS TELLS THE TRUTH, or two unlike texts have one digest. -/
theorem sound_pure (p : Prf) (T : Option Tri) (key : List UInt8) (hW : Tri.WFO T) (hok : ∀ s ∈ p.st, ZOk s) (hm : p.may = true) (hr : p.root = rootO T) (hl : leadsZ key p.st = true) (hX : NoClash (textsO T ++ p.texts)) :
    (p.no || !decide (p.k = key)) = !(look T key).isSome ∧ ((look T key).isSome = true → look T key = some p.v) := by
  have ht : p.texts = upZ p.endZ p.st.reverse := by simp [Prf.texts, hm]
  rw [ht] at hX
  have hE := may_ends p hm
  have hU : ∀ a ∈ upZ p.endZ p.st.reverse, a ∈ textsO T ++ upZ p.endZ p.st.reverse := fun a ha => List.mem_append_right _ ha
  cases T with
  | none =>
    have hr' : sha (topU p.endZ p.st.reverse) = sha noneZ := hr.trans noneS_shaZ
    have h2 := hX _ (hU _ (top_mem _ _)) _ (by simp [textsO]) hr'
    have hno : p.no = true := by
      cases hst : p.st with
      | nil =>
        rw [hst] at h2
        have h3 : p.endZ = noneZ := h2
        cases hn : p.no with
        | true => rfl
        | false =>
          rcases hE with h | ⟨k, v, h, hk, hv⟩
          · unfold Prf.endZ at h3
            rw [hn] at h3
            unfold Prf.may at hm
            rw [hn] at hm
            simp only [Bool.false_eq_true, if_false, Bool.and_eq_true, decide_eq_true_eq] at hm
            exact absurd h3 (leafZ_noneZ hm.1 hm.2.1)
          · exact absurd (h.symm.trans h3) (leafZ_noneZ hk hv)
      | cons s L =>
        rw [hst, List.reverse_cons, topU_snoc] at h2
        obtain ⟨a, b, h3, ha, hb, _⟩ := stepZ_form s (hok s (by rw [hst]; simp)) _ (sha_length (topU p.endZ L.reverse))
        rw [h3] at h2
        exact absurd h2 (forkZ_noneZ ha hb)
    rw [hno]
    exact ⟨rfl, fun h => by cases h⟩
  | some t =>
    have hf := follows _ hX p.endZ key hE t p.st hW hok (fun a ha => List.mem_append_left _ ha) hU hr hl
    have hsh := Tri.short_of t hW _ (Tri.near_mem t key)
    have hno : p.no = false := by
      cases hn : p.no with
      | false => rfl
      | true =>
        unfold Prf.endZ at hf
        rw [hn] at hf
        exact absurd hf.symm (leafZ_noneZ hsh.1 hsh.2)
    have hm' := hm
    unfold Prf.may at hm'
    rw [hno] at hm'
    simp only [Bool.false_eq_true, if_false, Bool.and_eq_true, decide_eq_true_eq] at hm'
    unfold Prf.endZ at hf
    rw [hno] at hf
    obtain ⟨e1, e2⟩ := leafZ_inj hm'.1 hm'.2.1 hsh.1 hsh.2 hf
    rw [hno]
    have hlk : look (some t) key = if (t.near key).1 = key then some (t.near key).2 else none := rfl
    rw [hlk]
    by_cases hk : (t.near key).1 = key
    · rw [if_pos hk, e1, hk, e2]
      simp
    · rw [if_neg hk, e1]
      simp [hk]
end Go.Proofs.YtmafaioohiaenaaDoor
