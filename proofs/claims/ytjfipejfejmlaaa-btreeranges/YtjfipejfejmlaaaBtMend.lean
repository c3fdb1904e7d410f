/- Contracts of page.size, page.mend (tools/btmend.py). -/
import Derived.Test.YtjfipejfejmlaaaBtUp
namespace Go.Proofs.Ytjfipejfejmlaaa
open Go.RowKit Go.Shelf
set_option linter.unusedVariables false
set_option linter.unusedSimpArgs false
set_option maxRecDepth 20000

/-- A page and what it holds, its first key left open. -/
def Half (h : Nat) (K : Nat → Prop) (w : World) (p : Pg h) : Prop := At h w p.pb p.sv p.fv p.es ∧ ∀ e ∈ p.es, Lies h K w e

theorem Half.new {h : Nat} {K : Nat → Prop} {w w' : World} {p : Pg h} (hp : Half h K w p) (hb : Below w.heap.size w w') : Half h K w' p := ⟨hp.1.new hb, fun e he => (hp.2 e he).new hb⟩

theorem Lies.half {h : Nat} {K : Nat → Prop} {w : World} {p : Pg h} (hp : Lies (h + 1) K w p) : Half h K w p := ⟨(lies_pg.1 hp).1, (lies_pg.1 hp).2.2⟩

set_option maxHeartbeats 2000000 in
theorem size_any (h : Nat) (w : World) (pb : Nat) (sv fv : Value) (es : List (Elem h)) (ha : At h w pb sv fv es) (hl : es.length ≤ 1000) :
    Calls Try.prog 58 #[.pointer (some ⟨pb, 0, none⟩)] w fun e w' => e = .returned (.int .i64 (es.length : Nat)) ∧ Below w.heap.size w w' := by
  obtain ⟨a, c, rfl⟩ := row_slice ha.row
  have hb := ha.blk
  have HN := hid (rfl : es.length = es.length)
  generalize es.length = n at *
  clear ha
  cases h with
  | zero =>
    have q0 : w.cell? ⟨pb, 0, none⟩ = some (.slice a n c) := by rw [cell_of_row _ _ _ _ _ _ hb]; rfl
    have q1 : w.cell? ⟨pb, 1, none⟩ = some (.slice none 0 0) := by rw [cell_of_row _ _ _ _ _ _ hb]; rfl
    go_enter Try.func58, Try.ntmps58
    go_wp2_with fail
    go_quiet (fail)
    go_wp2_with fail
    go_ret
    exact ⟨by first | rfl | simp, below_drewN _ _ _⟩
  | succ h =>
    have q0 : w.cell? ⟨pb, 0, none⟩ = some (.slice none 0 0) := by rw [cell_of_row _ _ _ _ _ _ hb]; rfl
    have q1 : w.cell? ⟨pb, 1, none⟩ = some (.slice a n c) := by rw [cell_of_row _ _ _ _ _ _ hb]; rfl
    go_enter Try.func58, Try.ntmps58
    go_wp2_with fail
    go_quiet (fail)
    go_wp2_with fail
    go_ret
    exact ⟨by first | rfl | simp, below_drewN _ _ _⟩

theorem ptrs_one (ps : List Nat) : ∀ u ∈ ps.map ptr, u.oneCell' = true := fun u hu => by
  obtain ⟨b, _, rfl⟩ := List.mem_map.1 hu
  rfl

/-- Where a page's mending begins, and how many pages it takes. -/
def fromM (n at' : Nat) : Nat := if n < 2 then at' - 1 else at'
def manyM (n : Nat) : Nat := if n < 2 then 2 else 1

/-- What page.mend makes of pages. -/
structure Mended (h : Nat) (K : Nat → Prop) (w w' : World) (qb : Nat) (fv : Value) (kids : List (Pg h)) (a m : Nat) : Prop where
  out : ∃ sv' qs, w'.heap[qb]? = some (.cells #[nilS, sv', fv] 66 (0, 0)) ∧ w'.ownsRow w.heap.size 53 1 sv' (kids.take a ++ qs ++ kids.drop (a + m)).length ((kids.take a ++ qs ++ kids.drop (a + m)).map fun q => ptr q.pb) ∧
    qs.map (·.es) = shareL (allEs ((kids.drop a).take m)) ∧ (∀ q ∈ qs, Lies (h + 1) K w' q) ∧ (∀ i, i < w.heap.size → occL (h + 1) qs i ≤ occL h (allEs ((kids.drop a).take m)) i) ∧ (∀ i, w.heap.size ≤ i → occL (h + 1) qs i + (if sv'.ownBlock = some i then 1 else 0) ≤ 1) ∧ Spares (fun i => i = qb) w w'

theorem shareL_two {α : Type} (L : List α) : (shareL L).length = 1 ∨ (shareL L).length = 2 := by
  unfold shareL
  split <;> simp

theorem mended_of {h : Nat} {K : Nat → Prop} {w w3 w4 w6 : World} {qb : Nat} {sv6 sv fv : Value} {kids qs : List (Pg h)} {a m : Nat} (hthl : True)
    (hkids : ∀ q ∈ kids, Half h K w q) (hocc : ∀ q ∈ kids, ∀ e ∈ q.es, ∀ i, 0 < occ h e i → i ≠ qb) (hK : ¬ K qb) (hqlt : qb < w.heap.size)
    (hq4 : qs.map (·.es) = shareL (allEs ((kids.drop a).take m))) (hf4 : Fresh h K w3 w4 (occL h (allEs ((kids.drop a).take m))) qs) (hb3 : Below w.heap.size w w3) (hb34 : Below w3.heap.size w3 w4) (hb46 : Below w4.heap.size w4 w6)
    (hqb6 : w6.heap[qb]? = some (.cells #[nilS, sv, fv] 66 (0, 0)))
    (ho : w6.ownsRow w4.heap.size 53 1 sv6 (kids.take a ++ qs ++ kids.drop (a + m)).length ((kids.take a ++ qs ++ kids.drop (a + m)).map fun q => ptr q.pb)) :
    Mended h K w (w6.setCell ⟨qb, 1, none⟩ sv6) qb fv kids a m := by
  have hz3 := hb3.size
  have hz34 := hb34.size
  have hz46 := hb46.size
  have hmem : ∀ e ∈ allEs ((kids.drop a).take m), ∃ q ∈ kids, e ∈ q.es := fun e he => by
    obtain ⟨q, hq, he⟩ := List.mem_flatMap.1 he
    exact ⟨q, List.mem_of_mem_drop (List.mem_of_mem_take hq), he⟩
  have hlt : ∀ i, 0 < occL h (allEs ((kids.drop a).take m)) i → i < w.heap.size ∧ i ≠ qb := fun i hi => by
    obtain ⟨e, he, hp⟩ := occL_pos hi
    obtain ⟨q, hq, he⟩ := hmem e he
    exact ⟨((hkids q hq).2 e he).lt i hp, hocc q hq e he i hp⟩
  have hqb0 : occL (h + 1) qs qb = 0 := by
    have h1 := hf4.low qb (by omega)
    rcases Nat.eq_zero_or_pos (occL h (allEs ((kids.drop a).take m)) qb) with h2 | h2
    · omega
    · exact absurd rfl (hlt qb h2).2
  have hb3' : Below w.heap.size w w4 := hb3.trans (hb34.mono hz3)
  have hb6 : Below w.heap.size w w6 := hb3'.trans (hb46.mono (by omega))
  have hsl : ∀ i, 0 < occL (h + 1) qs i → i < w4.heap.size := fun i hi => liesL_lt hf4.lies i hi
  refine ⟨sv6, qs, heap_setCell_same _ _ _ _ _ _ hqb6, (spares_set w6 ⟨qb, 1, none⟩ sv6).row (owns_lower ho (fun g hg => by have := (ho.lt g hg).1; omega)) (fun g hg e => ?_), hq4, fun q hq => ?_, fun i hi => hf4.low i (by omega), fun i hi => ?_, ?_⟩
  · have h1 := (ho.lt g hg).1
    have h2 : g = qb := e
    omega
  · refine ((hf4.lies q hq).new hb46).keep (spares_set w6 ⟨qb, 1, none⟩ sv6) (fun i hi e => ?_) (fun i hi e => ?_)
    · have h1 : i = qb := e
      subst h1
      have := occ_mem (h := h + 1) hq i
      omega
    · have h1 : i = qb := e
      subst h1
      exact hK hi
  · have h1 : occL (h + 1) qs i ≤ 1 := by
      by_cases hi3 : w3.heap.size ≤ i
      · exact hf4.high i hi3
      · have h2 := hf4.low i (by omega)
        rcases Nat.eq_zero_or_pos (occL h (allEs ((kids.drop a).take m)) i) with h3 | h3
        · omega
        · have := (hlt i h3).1; omega
    by_cases hs : sv6.ownBlock = some i
    · rw [if_pos hs]
      have h2 := (ho.lt i hs).1
      rcases Nat.eq_zero_or_pos (occL (h + 1) qs i) with h3 | h3
      · omega
      · have := hsl i h3; omega
    · rw [if_neg hs]; omega
  · exact (Spares.of_new hb6).andThen (spares_set w6 ⟨qb, 1, none⟩ sv6) (fun i hi => .inl hi)

set_option maxHeartbeats 8000000 in
theorem pmend_any (h : Nat) (K : Nat → Prop) (w : World) (qb k : Nat) (sv fv : Value) (kids : List (Pg h)) (p : Pg h) (hqb : w.heap[qb]? = some (.cells #[nilS, sv, fv] 66 (0, 0))) (hrow : w.ownsRow 0 53 1 sv kids.length (kids.map fun q => ptr q.pb))
    (hkids : ∀ q ∈ kids, Half h K w q) (hk : kids[k]? = some p) (hes : ∀ q ∈ kids, q.es.length ≤ 1000) (hl : kids.length ≤ 100) (h2 : p.es.length < 2 → 2 ≤ kids.length)
    (hocc : ∀ q ∈ kids, ∀ e ∈ q.es, ∀ i, 0 < occ h e i → i ≠ qb) (hK : ¬ K qb) :
    Calls Try.prog 48 #[.pointer (some ⟨qb, 0, none⟩), .int .i64 k] w fun e w' => (∃ v, e = .returned v) ∧ Mended h K w w' qb fv kids (fromM p.es.length k) (manyM p.es.length) := by
  have hkl := (List.getElem?_eq_some_iff.1 hk).1
  have hpk := List.mem_of_getElem? hk
  obtain ⟨a1, c1, rfl⟩ := row_slice hrow
  have hrw := rw_of_owns hrow (by have := ptrs_one (kids.map (·.pb)); rw [List.map_map] at this; exact this)
  obtain ⟨b, off, rfl, ck⟩ := hrw.one k (ptr p.pb) (by rw [List.getElem?_map, hk]; rfl)
  simp only [ptr] at ck
  have q1 : w.cell? ⟨qb, 1, none⟩ = some (.slice (some ⟨b, off, none⟩) kids.length c1) := by rw [cell_of_row _ _ _ _ _ _ hqb]; rfl
  have HS := size_any h w p.pb p.sv p.fv p.es (hkids p hpk).1 (hes p hpk)
  have hcb : b < w.heap.size := (hrow.lt b rfl).2
  have HQB := hid hqb
  have HRW := hid hrw
  have HKD := hid hkids
  have HES := hid hes
  have HOC := hid hocc
  have hqlt := block_lt hqb
  have hki : (k : Int) < (kids.length : Int) := by omega
  have hk0 : (0 : Int) ≤ (k : Int) := by omega
  generalize hpb : p.pb = pb at *
  clear hqb hrow hrw hkids hes hocc
  by_cases hs : p.es.length < 2
  · have h2' := h2 hs
    have hfm : fromM p.es.length k = k - 1 := if_pos hs
    have hmm : manyM p.es.length = 2 := if_pos hs
    rw [hfm, hmm]
    have hsi : (p.es.length : Int) < 2 := by omega
    by_cases hk1 : k = 0
    · subst hk1
      have ham : 0 + 2 ≤ kids.length := by omega
      generalize hlen : p.es.length = pl at *
      have HLEN := hid hlen
      have HPB := hid hpb
      have HK1 : Hid (((0 : Nat) : Int) = 0) := hid rfl
      rw [Nat.zero_sub]
      rw [Nat.add_zero] at ck
      clear hfm hmm h2 hlen hpb hs
      go_enter Try.func48, Try.ntmps48
      go_wp2_with (first
        | (go_at_call 58; refine HS.mono ?_; clear HS; rintro e w1 ⟨rfl, hb1⟩
           have q1' := (hb1.cell (p := ⟨qb, 1, none⟩) hqlt).trans q1
           have HC1 := cutP_any _ kids.length _ 0 w1 (HRW.out.new hb1) (by omega) (by omega)
           rw [show ((0 : Nat) : Int) = 0 from rfl] at HC1
           have HB1 := hid hb1
           clear hb1 q1 ck)
        | (go_at_call 59; (try rw [HK1.out]); first
          | (refine HC1.mono ?_; clear HC1; rintro e w2 ⟨⟨la, ra, rc, rfl, hl2, hr2, hn2⟩, hb2⟩
             have HC2 := cutP_any _ (kids.length - 0) _ 2 w2 hr2 (by omega) (by omega)
             rw [show ((2 : Nat) : Int) = 2 from rfl] at HC2
             have HL2 := hid hl2
             have HB2 := htr HB1 hb2
             clear hl2 hr2 hn2 hb2 HB1)
          | (refine HC2.mono ?_; clear HC2; rintro e w3 ⟨⟨lb, rb, rd, rfl, hl3, hr3, hn3⟩, hb3⟩
             have HB3 := htr HB2 hb3
             have HL3 := hid (HL2.out.new hb3)
             have hth : Rw w3 1 (.slice lb 2 2) 2 (((kids.drop 0).take 2).map fun q => ptr q.pb) := by
               rw [List.map_take, List.map_drop]
               simpa using hl3
             have hri : Rw w3 1 (.slice rb (kids.length - 0 - 2) rd) (kids.length - 0 - 2) ((kids.drop (0 + 2)).map fun q => ptr q.pb) := by
               rw [List.map_drop, ← List.drop_drop]
               simpa using hr3
             have hthl : ((kids.drop 0).take 2).length = 2 := by rw [List.length_take, List.length_drop]; omega
             have hmem : ∀ q ∈ (kids.drop 0).take 2, q ∈ kids := fun q hq => List.mem_of_mem_drop (List.mem_of_mem_take hq)
             have HSH := share_any h K (.slice lb 2 2) ((kids.drop 0).take 2) w3 (by rw [hthl]; exact hth) (fun q hq => (HKD.out q (hmem q hq)).new HB3.out) (fun q hq => HES.out q (hmem q hq)) (by omega)
             have HRI := hid hri
             clear hth hri hl3 hr3 hn3 hb3 HB2 HL2))
        | (go_at_call 49; refine HSH.mono ?_; clear HSH; rintro e w4 ⟨rv, qs, rfl, ho4, hq4, hf4, hb4⟩
           obtain ⟨a4, c4, rfl⟩ := row_slice ho4
           have HB4 := htr HB3 hb4
           have hqs : 0 < qs.length ∧ qs.length ≤ 2 := by
             have := congrArg List.length hq4
             rw [List.length_map] at this
             rcases shareL_two (allEs ((kids.drop 0).take 2)) with e | e <;> omega
           have HR4 := hid (rw_of_owns ho4 (by have := ptrs_one (qs.map (·.pb)); rw [List.map_map] at this; exact this))
           have HL4 := hid (HL3.out.new hb4)
           have HRI4 := hid (HRI.out.new hb4)
           have HQ4 := hid hq4
           have HF4 := hid hf4
           have hz3 := HB3.out.size
           have hz4 := HB4.out.size
           have hz34 := hb4.size
           have hb34 := hb4
           clear ho4 hq4 hf4 hb4 HL3 HRI)
        | (at_builtin; first
          | (refine wpList_append_full _ rfl (.tmp 37) (.tmp 39) 64 53 (.pointer none) 1 8 rfl Try.underlying64 Try.infoPgpZ rfl (by decide) la 0 0 _ rfl HL4.out rfl _ qs.length _ rfl HR4.out hqs.1 ?d1 ?d2 ?_)
          | (refine wpList_append_rw _ rfl (.tmp 40) (.tmp 41) 64 53 (.pointer none) 1 8 rfl Try.underlying64 Try.infoPgpZ rfl (by decide) w4.heap.size _ _ _ rfl HO5.out _ (kids.length - 0 - 2) _ rfl HRI5.out ?d3 ?d4 ?d5 ?_)))
      case d1 => unfold maxLen; omega
      case d2 => omega
      intro v5 w5 ho5 hg5
      obtain ⟨a5, c5, rfl⟩ := row_slice ho5
      have hb5 : Below w4.heap.size w4 w5 := (Below.refl _ _).grown hg5 (Nat.le_refl _) (fun q hq => by cases hq)
      have HO5 := hid ho5
      have HRI5 := hid (HRI4.out.new hb5)
      have HB5 := htr HB4 hb5
      have hz5 := hb5.size
      clear ho5 hg5 HL4 HR4 HRI4
      go_wp2_with (first
        | (at_builtin; refine wpList_append_rw _ rfl (.tmp 40) (.tmp 41) 64 53 (.pointer none) 1 8 rfl Try.underlying64 Try.infoPgpZ rfl (by decide) w4.heap.size _ _ _ rfl HO5.out _ (kids.length - 0 - 2) _ rfl HRI5.out ?d3 ?d4 ?d5 ?_))
      case d3 => unfold maxLen; omega
      case d4 => omega
      case d5 => omega
      intro v6 w6 ho6 hg6 hn6
      obtain ⟨a6, c6, rfl⟩ := row_slice ho6
      have hb46 : Below w4.heap.size w4 w6 := hb5.grown hg6 hb5.size (fun q hq => (HO5.out.lt q hq).1)
      have HB6 := htr HB4 hb46
      have HO6 := hid ho6
      have hz6 := hb46.size
      have hqb6 := (HB6.out.block _ hqlt).trans HQB.out
      have q6 : w6.cell? ⟨qb, 1, none⟩ = some (.slice (some ⟨b, off, none⟩) kids.length c1) := by rw [cell_of_row _ _ _ _ _ _ hqb6]; rfl
      clear ho6 hg6 hn6 HO5 HRI5
      have f6 : w6.frozen? ⟨qb, 1, none⟩ = false := by simp [World.frozen?, hqb6]
      go_wp2_with fail
      go_end0
      refine ⟨⟨_, rfl⟩, mended_of trivial HKD.out HOC.out hK hqlt HQ4.out HF4.out HB3.out hb34 hb46 hqb6 ?_⟩
      have e := HO6.out
      have el : (kids.take 0 ++ qs ++ kids.drop (0 + 2)).length = 0 + qs.length + (kids.length - 0 - 2) := by simp only [List.length_append, List.length_take, List.length_drop]; omega
      rw [el]
      have em : (kids.take 0 ++ qs ++ kids.drop (0 + 2)).map (fun q => ptr q.pb) = (kids.map fun q => ptr q.pb).take (0 * 1) ++ (qs.map fun q => ptr q.pb) ++ (kids.drop (0 + 2)).map (fun q => ptr q.pb) := by simp
      rw [em, List.map_drop]
      first | (rw [Nat.mul_one, List.append_assoc]; exact e) | simpa using e
    · have ham : k - 1 + 2 ≤ kids.length := by omega
      have hki1 : (1 : Int) ≤ (k : Int) := by omega
      generalize hlen : p.es.length = pl at *
      generalize hfrom : k - 1 = a at *
      have HLEN := hid hlen
      have HFROM := hid hfrom
      have HPB := hid hpb
      have HK1 : Hid ((k : Int) - 1 = (a : Int)) := hid (by omega)
      clear hfm hmm h2 hlen hfrom hpb hs hk1
      go_enter Try.func48, Try.ntmps48
      go_wp2_with (first
        | (go_at_call 58; refine HS.mono ?_; clear HS; rintro e w1 ⟨rfl, hb1⟩
           have q1' := (hb1.cell (p := ⟨qb, 1, none⟩) hqlt).trans q1
           have HC1 := cutP_any _ kids.length _ a w1 (HRW.out.new hb1) (by omega) (by omega)
           skip
           have HB1 := hid hb1
           clear hb1 q1 ck)
        | (go_at_call 59; (try rw [HK1.out]); first
          | (refine HC1.mono ?_; clear HC1; rintro e w2 ⟨⟨la, ra, rc, rfl, hl2, hr2, hn2⟩, hb2⟩
             have HC2 := cutP_any _ (kids.length - a) _ 2 w2 hr2 (by omega) (by omega)
             rw [show ((2 : Nat) : Int) = 2 from rfl] at HC2
             have HL2 := hid hl2
             have HB2 := htr HB1 hb2
             clear hl2 hr2 hn2 hb2 HB1)
          | (refine HC2.mono ?_; clear HC2; rintro e w3 ⟨⟨lb, rb, rd, rfl, hl3, hr3, hn3⟩, hb3⟩
             have HB3 := htr HB2 hb3
             have HL3 := hid (HL2.out.new hb3)
             have hth : Rw w3 1 (.slice lb 2 2) 2 (((kids.drop a).take 2).map fun q => ptr q.pb) := by
               rw [List.map_take, List.map_drop]
               simpa using hl3
             have hri : Rw w3 1 (.slice rb (kids.length - a - 2) rd) (kids.length - a - 2) ((kids.drop (a + 2)).map fun q => ptr q.pb) := by
               rw [List.map_drop, ← List.drop_drop]
               simpa using hr3
             have hthl : ((kids.drop a).take 2).length = 2 := by rw [List.length_take, List.length_drop]; omega
             have hmem : ∀ q ∈ (kids.drop a).take 2, q ∈ kids := fun q hq => List.mem_of_mem_drop (List.mem_of_mem_take hq)
             have HSH := share_any h K (.slice lb 2 2) ((kids.drop a).take 2) w3 (by rw [hthl]; exact hth) (fun q hq => (HKD.out q (hmem q hq)).new HB3.out) (fun q hq => HES.out q (hmem q hq)) (by omega)
             have HRI := hid hri
             clear hth hri hl3 hr3 hn3 hb3 HB2 HL2))
        | (go_at_call 49; refine HSH.mono ?_; clear HSH; rintro e w4 ⟨rv, qs, rfl, ho4, hq4, hf4, hb4⟩
           obtain ⟨a4, c4, rfl⟩ := row_slice ho4
           have HB4 := htr HB3 hb4
           have hqs : 0 < qs.length ∧ qs.length ≤ 2 := by
             have := congrArg List.length hq4
             rw [List.length_map] at this
             rcases shareL_two (allEs ((kids.drop a).take 2)) with e | e <;> omega
           have HR4 := hid (rw_of_owns ho4 (by have := ptrs_one (qs.map (·.pb)); rw [List.map_map] at this; exact this))
           have HL4 := hid (HL3.out.new hb4)
           have HRI4 := hid (HRI.out.new hb4)
           have HQ4 := hid hq4
           have HF4 := hid hf4
           have hz3 := HB3.out.size
           have hz4 := HB4.out.size
           have hz34 := hb4.size
           have hb34 := hb4
           clear ho4 hq4 hf4 hb4 HL3 HRI)
        | (at_builtin; first
          | (refine wpList_append_full _ rfl (.tmp 37) (.tmp 39) 64 53 (.pointer none) 1 8 rfl Try.underlying64 Try.infoPgpZ rfl (by decide) la a a _ rfl HL4.out rfl _ qs.length _ rfl HR4.out hqs.1 ?d1 ?d2 ?_)
          | (refine wpList_append_rw _ rfl (.tmp 40) (.tmp 41) 64 53 (.pointer none) 1 8 rfl Try.underlying64 Try.infoPgpZ rfl (by decide) w4.heap.size _ _ _ rfl HO5.out _ (kids.length - a - 2) _ rfl HRI5.out ?d3 ?d4 ?d5 ?_)))
      case d1 => unfold maxLen; omega
      case d2 => omega
      intro v5 w5 ho5 hg5
      obtain ⟨a5, c5, rfl⟩ := row_slice ho5
      have hb5 : Below w4.heap.size w4 w5 := (Below.refl _ _).grown hg5 (Nat.le_refl _) (fun q hq => by cases hq)
      have HO5 := hid ho5
      have HRI5 := hid (HRI4.out.new hb5)
      have HB5 := htr HB4 hb5
      have hz5 := hb5.size
      clear ho5 hg5 HL4 HR4 HRI4
      go_wp2_with (first
        | (at_builtin; refine wpList_append_rw _ rfl (.tmp 40) (.tmp 41) 64 53 (.pointer none) 1 8 rfl Try.underlying64 Try.infoPgpZ rfl (by decide) w4.heap.size _ _ _ rfl HO5.out _ (kids.length - a - 2) _ rfl HRI5.out ?d3 ?d4 ?d5 ?_))
      case d3 => unfold maxLen; omega
      case d4 => omega
      case d5 => omega
      intro v6 w6 ho6 hg6 hn6
      obtain ⟨a6, c6, rfl⟩ := row_slice ho6
      have hb46 : Below w4.heap.size w4 w6 := hb5.grown hg6 hb5.size (fun q hq => (HO5.out.lt q hq).1)
      have HB6 := htr HB4 hb46
      have HO6 := hid ho6
      have hz6 := hb46.size
      have hqb6 := (HB6.out.block _ hqlt).trans HQB.out
      have q6 : w6.cell? ⟨qb, 1, none⟩ = some (.slice (some ⟨b, off, none⟩) kids.length c1) := by rw [cell_of_row _ _ _ _ _ _ hqb6]; rfl
      clear ho6 hg6 hn6 HO5 HRI5
      have f6 : w6.frozen? ⟨qb, 1, none⟩ = false := by simp [World.frozen?, hqb6]
      go_wp2_with fail
      go_end0
      refine ⟨⟨_, rfl⟩, mended_of trivial HKD.out HOC.out hK hqlt HQ4.out HF4.out HB3.out hb34 hb46 hqb6 ?_⟩
      have e := HO6.out
      have el : (kids.take a ++ qs ++ kids.drop (a + 2)).length = a + qs.length + (kids.length - a - 2) := by simp only [List.length_append, List.length_take, List.length_drop]; omega
      rw [el]
      have em : (kids.take a ++ qs ++ kids.drop (a + 2)).map (fun q => ptr q.pb) = (kids.map fun q => ptr q.pb).take (a * 1) ++ (qs.map fun q => ptr q.pb) ++ (kids.drop (a + 2)).map (fun q => ptr q.pb) := by simp
      rw [em, List.map_drop]
      first | (rw [Nat.mul_one, List.append_assoc]; exact e) | simpa using e
  · have hfm : fromM p.es.length k = k := if_neg hs
    have hmm : manyM p.es.length = 1 := if_neg hs
    rw [hfm, hmm]
    have hsi : ¬ (p.es.length : Int) < 2 := by omega
    have ham : k + 1 ≤ kids.length := by omega
    generalize hlen : p.es.length = pl at *
    have HLEN := hid hlen
    have HPB := hid hpb
    have HK1 : Hid (((1 : Nat) : Int) = 1) := hid rfl
    clear hfm hmm h2 hlen hpb hs
    go_enter Try.func48, Try.ntmps48
    go_wp2_with (first
      | (go_at_call 58; refine HS.mono ?_; clear HS; rintro e w1 ⟨rfl, hb1⟩
         have q1' := (hb1.cell (p := ⟨qb, 1, none⟩) hqlt).trans q1
         have HC1 := cutP_any _ kids.length _ k w1 (HRW.out.new hb1) (by omega) (by omega)
         skip
         have HB1 := hid hb1
         clear hb1 q1 ck)
      | (go_at_call 59; (try rw [HK1.out]); first
        | (refine HC1.mono ?_; clear HC1; rintro e w2 ⟨⟨la, ra, rc, rfl, hl2, hr2, hn2⟩, hb2⟩
           have HC2 := cutP_any _ (kids.length - k) _ 1 w2 hr2 (by omega) (by omega)
           rw [show ((1 : Nat) : Int) = 1 from rfl] at HC2
           have HL2 := hid hl2
           have HB2 := htr HB1 hb2
           clear hl2 hr2 hn2 hb2 HB1)
        | (refine HC2.mono ?_; clear HC2; rintro e w3 ⟨⟨lb, rb, rd, rfl, hl3, hr3, hn3⟩, hb3⟩
           have HB3 := htr HB2 hb3
           have HL3 := hid (HL2.out.new hb3)
           have hth : Rw w3 1 (.slice lb 1 1) 1 (((kids.drop k).take 1).map fun q => ptr q.pb) := by
             rw [List.map_take, List.map_drop]
             simpa using hl3
           have hri : Rw w3 1 (.slice rb (kids.length - k - 1) rd) (kids.length - k - 1) ((kids.drop (k + 1)).map fun q => ptr q.pb) := by
             rw [List.map_drop, ← List.drop_drop]
             simpa using hr3
           have hthl : ((kids.drop k).take 1).length = 1 := by rw [List.length_take, List.length_drop]; omega
           have hmem : ∀ q ∈ (kids.drop k).take 1, q ∈ kids := fun q hq => List.mem_of_mem_drop (List.mem_of_mem_take hq)
           have HSH := share_any h K (.slice lb 1 1) ((kids.drop k).take 1) w3 (by rw [hthl]; exact hth) (fun q hq => (HKD.out q (hmem q hq)).new HB3.out) (fun q hq => HES.out q (hmem q hq)) (by omega)
           have HRI := hid hri
           clear hth hri hl3 hr3 hn3 hb3 HB2 HL2))
      | (go_at_call 49; refine HSH.mono ?_; clear HSH; rintro e w4 ⟨rv, qs, rfl, ho4, hq4, hf4, hb4⟩
         obtain ⟨a4, c4, rfl⟩ := row_slice ho4
         have HB4 := htr HB3 hb4
         have hqs : 0 < qs.length ∧ qs.length ≤ 2 := by
           have := congrArg List.length hq4
           rw [List.length_map] at this
           rcases shareL_two (allEs ((kids.drop k).take 1)) with e | e <;> omega
         have HR4 := hid (rw_of_owns ho4 (by have := ptrs_one (qs.map (·.pb)); rw [List.map_map] at this; exact this))
         have HL4 := hid (HL3.out.new hb4)
         have HRI4 := hid (HRI.out.new hb4)
         have HQ4 := hid hq4
         have HF4 := hid hf4
         have hz3 := HB3.out.size
         have hz4 := HB4.out.size
         have hz34 := hb4.size
         have hb34 := hb4
         clear ho4 hq4 hf4 hb4 HL3 HRI)
      | (at_builtin; first
        | (refine wpList_append_full _ rfl (.tmp 37) (.tmp 39) 64 53 (.pointer none) 1 8 rfl Try.underlying64 Try.infoPgpZ rfl (by decide) la k k _ rfl HL4.out rfl _ qs.length _ rfl HR4.out hqs.1 ?d1 ?d2 ?_)
        | (refine wpList_append_rw _ rfl (.tmp 40) (.tmp 41) 64 53 (.pointer none) 1 8 rfl Try.underlying64 Try.infoPgpZ rfl (by decide) w4.heap.size _ _ _ rfl HO5.out _ (kids.length - k - 1) _ rfl HRI5.out ?d3 ?d4 ?d5 ?_)))
    case d1 => unfold maxLen; omega
    case d2 => omega
    intro v5 w5 ho5 hg5
    obtain ⟨a5, c5, rfl⟩ := row_slice ho5
    have hb5 : Below w4.heap.size w4 w5 := (Below.refl _ _).grown hg5 (Nat.le_refl _) (fun q hq => by cases hq)
    have HO5 := hid ho5
    have HRI5 := hid (HRI4.out.new hb5)
    have HB5 := htr HB4 hb5
    have hz5 := hb5.size
    clear ho5 hg5 HL4 HR4 HRI4
    go_wp2_with (first
      | (at_builtin; refine wpList_append_rw _ rfl (.tmp 40) (.tmp 41) 64 53 (.pointer none) 1 8 rfl Try.underlying64 Try.infoPgpZ rfl (by decide) w4.heap.size _ _ _ rfl HO5.out _ (kids.length - k - 1) _ rfl HRI5.out ?d3 ?d4 ?d5 ?_))
    case d3 => unfold maxLen; omega
    case d4 => omega
    case d5 => omega
    intro v6 w6 ho6 hg6 hn6
    obtain ⟨a6, c6, rfl⟩ := row_slice ho6
    have hb46 : Below w4.heap.size w4 w6 := hb5.grown hg6 hb5.size (fun q hq => (HO5.out.lt q hq).1)
    have HB6 := htr HB4 hb46
    have HO6 := hid ho6
    have hz6 := hb46.size
    have hqb6 := (HB6.out.block _ hqlt).trans HQB.out
    have q6 : w6.cell? ⟨qb, 1, none⟩ = some (.slice (some ⟨b, off, none⟩) kids.length c1) := by rw [cell_of_row _ _ _ _ _ _ hqb6]; rfl
    clear ho6 hg6 hn6 HO5 HRI5
    have f6 : w6.frozen? ⟨qb, 1, none⟩ = false := by simp [World.frozen?, hqb6]
    go_wp2_with fail
    go_end0
    refine ⟨⟨_, rfl⟩, mended_of trivial HKD.out HOC.out hK hqlt HQ4.out HF4.out HB3.out hb34 hb46 hqb6 ?_⟩
    have e := HO6.out
    have el : (kids.take k ++ qs ++ kids.drop (k + 1)).length = k + qs.length + (kids.length - k - 1) := by simp only [List.length_append, List.length_take, List.length_drop]; omega
    rw [el]
    have em : (kids.take k ++ qs ++ kids.drop (k + 1)).map (fun q => ptr q.pb) = (kids.map fun q => ptr q.pb).take (k * 1) ++ (qs.map fun q => ptr q.pb) ++ (kids.drop (k + 1)).map (fun q => ptr q.pb) := by simp
    rw [em, List.map_drop]
    first | (rw [Nat.mul_one, List.append_assoc]; exact e) | simpa using e
end Go.Proofs.Ytjfipejfejmlaaa
