/- The walk of ProofOwn. -/
import Derived.Test.YtmafaioohiaenaaDoorSmall5
namespace Go.Proofs.YtmafaioohiaenaaDoor
open Go.RowKit Go.Shelf
set_option linter.unusedVariables false
set_option linter.unusedSimpArgs false
set_option maxRecDepth 20000

set_option maxHeartbeats 2000000 in
theorem bytes_no (B : Nat) (p : Prf) (kv vv sv : Value) (w : World) (hB : B ≤ w.heap.size) (hp : PAt B w p kv vv sv) (hm : p.may = false) :
    Calls Tryd.prog 21 #[.agg #[.bool p.no, kv, vv, sv]] w fun e w' => e = .returned (.tuple #[.slice none 0 0, .int .i64 5]) ∧ Below w.heap.size w w' := by
  obtain ⟨ka, kc, rfl, hk1, hk2, _⟩ := id hp.hk
  obtain ⟨va, vc, rfl, hv1, hv2, _⟩ := id hp.hv
  obtain ⟨sa, sc, rfl, hs1, hs2⟩ := hp.hs.form
  have hbn : Below w.heap.size w (w.alloc (.cells #[.bool p.no, .slice ka p.k.length kc, .slice va p.v.length vc, .slice sa p.st.length sc] 29)) := (Below.refl _ _).alloc (Nat.le_refl _) _
  have HM := may_any B p _ _ _ _ (by have := hbn.size; omega) (hp.below (hbn.mono hB))
  rw [hm] at HM
  clear hp
  go_enter Tryd.func21, Tryd.ntmps21
  go_wp2_with (go_at_call 44; refine HM.mono ?_; clear HM; rintro e w1 ⟨rfl, hb1⟩)
  go_ret2
  exact ⟨rfl, hbn.trans (hb1.mono hbn.size)⟩

/-- A proof that may be holds against its own root, and tells its own entry. -/
theorem own_tells (p : Prf) (h : p.may = true) : p.tells p.root p.k = (0, !p.no, p.v) := by
  have hl : leadsZ p.k p.st = true := by
    unfold Prf.may at h
    split at h
    · have := (of_decide_eq_true h).2.2
      rw [List.eq_nil_of_length_eq_zero this]
      rfl
    · simp only [Bool.and_eq_true] at h
      exact h.2.2.2
  unfold Prf.tells
  rw [h, hl]
  simp only [decide_true, Bool.and_self, if_true, Bool.not_true, Bool.or_false]
  cases hn : p.no with
  | true =>
    simp only [Prf.may, hn, if_true] at h
    have := (of_decide_eq_true h).2.1
    rw [List.eq_nil_of_length_eq_zero this]
    rfl
  | false => rfl

theorem wrap_small (m : Nat) (h : m ≤ 100000) : wrap64 (m : Int) = (m : Int) ∧ IntKind.i64.wrap (m : Int) = (m : Int) :=
  ⟨by rw [wrap64_eq]; omega, i64_fit _ (by omega) (by omega)⟩

set_option maxHeartbeats 8000000 in
theorem own_law (p : Prf) (kv vv sv : Value) (w : World) (hp : PAt w.heap.size w p kv vv sv) (hT : Tables w) :
    Calls Tryd.prog 7 #[.agg #[.bool p.no, kv, vv, sv]] w fun e w' => e = .returned (.bool true) ∧ Below w.heap.size w w' := by
  obtain ⟨ka, kc, rfl, hk1, hk2, _⟩ := id hp.hk
  obtain ⟨va, vc, rfl, hv1, hv2, _⟩ := id hp.hv
  obtain ⟨sa, sc, rfl, hs1, hs2⟩ := hp.hs.form
  unfold maxLen at hk2 hv2 hs2
  have hlt := hT.lt
  have hbn : Below w.heap.size w (w.alloc (.cells #[.bool p.no, .slice ka p.k.length kc, .slice va p.v.length vc, .slice sa p.st.length sc] 29)) := (Below.refl _ _).alloc (Nat.le_refl _) _
  have hnew := World.alloc_heap_new w (.cells #[.bool p.no, .slice ka p.k.length kc, .slice va p.v.length vc, .slice sa p.st.length sc] 29)
  have hsn : (w.alloc (.cells #[.bool p.no, .slice ka p.k.length kc, .slice va p.v.length vc, .slice sa p.st.length sc] 29)).heap.size = w.heap.size + 1 := World.size_alloc _ _
  -- what holds in every later world
  have FB : ∀ W, Below (w.heap.size + 1) (w.alloc (.cells #[.bool p.no, .slice ka p.k.length kc, .slice va p.v.length vc, .slice sa p.st.length sc] 29)) W → Below w.heap.size w W ∧ PAt w.heap.size W p (.slice ka p.k.length kc) (.slice va p.v.length vc) (.slice sa p.st.length sc) ∧ w.heap.size ≤ W.heap.size ∧ Tables W ∧ W.heap[w.heap.size]? = some (.cells #[.bool p.no, .slice ka p.k.length kc, .slice va p.v.length vc, .slice sa p.st.length sc] 29 (0, 0)) := fun W h => by
    have hb : Below w.heap.size w W := hbn.trans (h.mono (by omega))
    exact ⟨hb, hp.below hb, hb.size, hT.below hb (by omega), (h.block _ (by omega)).trans hnew⟩
  have b0 : Below (w.heap.size + 1) (w.alloc (.cells #[.bool p.no, .slice ka p.k.length kc, .slice va p.v.length vc, .slice sa p.st.length sc] 29)) (w.alloc (.cells #[.bool p.no, .slice ka p.k.length kc, .slice va p.v.length vc, .slice sa p.st.length sc] 29)) := Below.refl _ _
  have HSM := small5_any _ (FB _ b0).2.2.2.1
  have HFB := hid FB
  clear FB hp hT hnew
  go_enter Tryd.func7, Tryd.ntmps7
  go_wp2_with fail
  generalize hw0 : w.alloc (.cells #[.bool p.no, .slice ka p.k.length kc, .slice va p.v.length vc, .slice sa p.st.length sc] 29) = w0 at *
  refine HSM.mono ?_
  clear HSM
  rintro e w1 ⟨rfl, hb1⟩
  have b1 : Below (w.heap.size + 1) w0 w1 := b0.trans (hb1.mono (by omega))
  clear hb1
  obtain ⟨r1, r2, r3, r4, r5⟩ := HFB.out _ b1
  obtain ⟨c0, c1, c2, c3⟩ := proof_cells r5
  have HSH := short_any w.heap.size p _ _ _ w1 r2
  have hz1 := b1.size
  clear r1 r2 r3 r4 r5
  by_cases hshort : p.k.length ≤ 4096 ∧ p.v.length ≤ 4096 ∧ p.st.length ≤ 2000
  · rw [decide_eq_true hshort] at HSH
    go_wp2_with fail
    refine HSH.mono ?_
    clear HSH
    rintro e w2 ⟨rfl, hb2⟩
    have b2 : Below (w.heap.size + 1) w0 w2 := b1.trans (hb2.mono (by omega))
    clear hb2 c0 c1 c2 c3
    obtain ⟨r1, r2, r3, r4, r5⟩ := HFB.out _ b2
    obtain ⟨c0, c1, c2, c3⟩ := proof_cells r5
    have hz2 := b2.size
    cases hm : p.may with
    | false =>
      have HTX := ptexts_any w.heap.size p _ _ _ w2 r3 r2 r4
      rw [show p.texts = [] by simp [Prf.texts, hm]] at HTX
      clear r1 r2 r3 r4 r5
      go_wp2_with fail
      refine HTX.mono ?_
      clear HTX
      rintro e w3 ⟨rv, rfl, ⟨vs, hrow, _⟩, hb3⟩
      obtain ⟨ra, rc, rfl⟩ := row_form hrow
      have b3 : Below (w.heap.size + 1) w0 w3 := b2.trans (hb3.mono (by omega))
      clear hb3 c0 c1 c2 c3 hrow
      obtain ⟨r1, r2, r3, r4, r5⟩ := HFB.out _ b3
      obtain ⟨c0, c1, c2, c3⟩ := proof_cells r5
      have hz3 := b3.size
      have HBY := bytes_no w.heap.size p _ _ _ w3 r3 r2 hm
      clear r1 r2 r3 r4 r5
      go_wp2_with fail
      refine HBY.mono ?_
      clear HBY
      rintro e w4 ⟨rfl, hb4⟩
      have b4 : Below (w.heap.size + 1) w0 w4 := b3.trans (hb4.mono (by omega))
      have HE := hid (HFB.out _ b4).1
      go_wp2
      go_ret
      exact ⟨rfl, HE.out⟩
    | true =>
      have HTX := texts_in w.heap.size p _ _ _ w2 r3 r2 r4 hm
      have hul := upZ_length p.st.reverse p.endZ
      have hll := upZ_last p.st.reverse p.endZ
      have htl := hid (topU_le p p.st.reverse)
      rw [List.length_reverse] at hul
      clear r1 r2 r3 r4 r5
      go_wp2_with fail
      refine HTX.mono ?_
      clear HTX
      rintro e w3 ⟨rv, rfl, ⟨vs, hrow, hown⟩, hb3⟩
      have b3 : Below (w.heap.size + 1) w0 w3 := b2.trans (hb3.mono (by omega))
      clear hb3 c0 c1 c2 c3
      have hz3 := b3.size
      have hvl : vs.length = p.st.length + 1 := by rw [hown.len, hul]
      obtain ⟨u, hu⟩ : ∃ u, vs[p.st.length]? = some u := ⟨_, List.getElem?_eq_getElem (by omega)⟩
      rw [List.getLast?_eq_getElem?, hul, Nat.add_sub_cancel] at hll
      have hsu : Says w3 u (topU p.endZ p.st.reverse) := (shows_of_owns (hown.own _ _ _ hu hll).1).2
      rw [hul] at hrow
      obtain ⟨g, cap, rfl, _, hgl⟩ := hrow.form (by omega)
      obtain ⟨ua, uc, rfl, _⟩ := id hsu
      have hcell : w3.cell? ⟨g, p.st.length, none⟩ = some (.slice ua (topU p.endZ p.st.reverse).length uc) := (hrow.cellAt p.st.length (by omega)).trans hu
      obtain ⟨tx, htx⟩ : ∃ tx, topU p.endZ p.st.reverse = tx := ⟨_, rfl⟩
      have hroot : p.root = sha tx := by rw [← htx]; rfl
      rw [htx] at hcell hsu htl
      have HCH : Hid (∀ W, Below (w.heap.size + 1) w0 W → Calls Tryd.prog 14 #[.agg (sumV (sha tx)), .slice ka p.k.length kc, .agg #[.bool p.no, .slice ka p.k.length kc, .slice va p.v.length vc, .slice sa p.st.length sc]] W fun e w' => ∃ v', e = .returned (.tuple #[v', .bool (!p.no), .int .i64 0]) ∧ Copy W.heap.size w' v' p.v ∧ Below W.heap.size W w') := hid (fun W hW => by
        obtain ⟨r1, r2, r3, r4, r5⟩ := HFB.out _ hW
        have := check_any w.heap.size p _ _ _ (.slice ka p.k.length kc) (sha tx) p.k W r3 r2 r2.hk (sha_length _) r4
        rw [← hroot, own_tells p hm] at this
        rw [← hroot]
        exact this)
      have FS : ∀ W, Below w3.heap.size w3 W → W.cell? ⟨w.heap.size, 0, none⟩ = some (.bool p.no) ∧ W.cell? ⟨w.heap.size, 1, none⟩ = some (.slice ka p.k.length kc) ∧ W.cell? ⟨w.heap.size, 2, none⟩ = some (.slice va p.v.length vc) ∧ W.cell? ⟨w.heap.size, 3, none⟩ = some (.slice sa p.st.length sc) ∧ W.cell? ⟨g, p.st.length, none⟩ = some (.slice ua tx.length uc) := fun W hW => by
        obtain ⟨c0, c1, c2, c3⟩ := proof_cells ((hW.block _ (by omega)).trans (HFB.out _ b3).2.2.2.2)
        exact ⟨c0, c1, c2, c3, (hW.cell (p := ⟨g, p.st.length, none⟩) hgl).trans hcell⟩
      have HRW := raw_any w3.heap.size (.slice ua tx.length uc) tx w3.drew (Nat.le_refl _) (hsu.below (below_drewN _ _ 1)) htl.out ((HFB.out _ b3).2.2.2.1.below (below_drewN w3.heap.size _ 1) (by omega))
      obtain ⟨c0, c1, c2, c3, c4⟩ := FS w3 (Below.refl _ _)
      have hS3 := FS w3.drew (below_drewN _ _ 1)
      have HFS := hid FS
      have hA : (sumV (sha tx)) = ((sha tx).map by8).toArray := rfl
      rw [hA] at HCH
      generalize ((sha tx).map by8).toArray = A at *
      obtain ⟨n, hn⟩ : ∃ n, p.st.length + 1 = n := ⟨_, rfl⟩
      rw [hn]
      have hsl : p.st.length ≤ 2000 := hshort.2.2
      have hlen0 : ((n : Int) == 0) = false := by rw [beq_eq_false_iff_ne]; omega
      have hlen1 : (n : Int) - 1 = (p.st.length : Int) := by omega
      have hlp : (0 : Int) ≤ (p.st.length : Int) := by omega
      have hlq : (p.st.length : Int) < (n : Int) := by omega
      have hn2 : n ≤ 2001 := by omega
      have HN := hid hn
      clear hn
      generalize p.st.length = m at *
      have hw1 := (wrap_small m (Nat.le_trans hsl (by decide))).1
      have hw2 := (wrap_small m (Nat.le_trans hsl (by decide))).2
      clear FS hul hll hown hrow hu hvl hcell hsu htl hA hw0
      go_wp2_with fail
      go_region_held3 (fun w' => w'.cell? ⟨w.heap.size, 0, none⟩ = some (.bool p.no) ∧ w'.cell? ⟨w.heap.size, 1, none⟩ = some (.slice ka p.k.length kc) ∧ w'.cell? ⟨w.heap.size, 2, none⟩ = some (.slice va p.v.length vc) ∧ w'.cell? ⟨w.heap.size, 3, none⟩ = some (.slice sa m sc) ∧ w'.cell? ⟨g, m, none⟩ = some (.slice ua tx.length uc))
        (first | assumption)
        (first
          | (go_at_call 33; refine HRW.mono ?_; clear HRW; rintro e w4 ⟨rfl, hb4⟩
             have d4 : Below w3.heap.size w3 w4 := (below_drewN _ _ 1).trans hb4
             have hS4 := HFS.out _ d4
             have HC4 := HCH.out w4 (b3.trans (d4.mono (by omega)))
             clear hb4)
          | (go_at_call 14; refine HC4.mono ?_; clear HC4; rintro e w5 ⟨v', rfl, hcp, hb5⟩
             obtain ⟨xa, xc, rfl⟩ := hcp.form
             have d5 : Below w3.heap.size w3 w5 := d4.trans (hb5.mono d4.size)
             have hS5 := HFS.out _ d5
             clear hb5))
      have b5 : Below (w.heap.size + 1) w0 w5 := b3.trans (d5.mono (by omega))
      obtain ⟨q1, q2, q3, q4, q5⟩ := HFB.out _ b5
      obtain ⟨e0, e1, e2, e3, e4⟩ := hS5
      have k1 := run_string_shows (P := Tryd.prog) 24 5 9 Tryd.underlying24 Tryd.underlying5 Tryd.underlying9 hcp.says
      have k2 := run_string_shows (P := Tryd.prog) 24 5 9 Tryd.underlying24 Tryd.underlying5 Tryd.underlying9 q2.hv
      have HE := hid q1
      have hbb : ((!p.no) == (!p.no)) = true := by simp
      have hpl : (m : Int) + 1 = (n : Int) := by rw [← HN.out]; simp
      have hw3 := (wrap_small n (Nat.le_trans hn2 (by decide))).1
      have hw4 := (wrap_small n (Nat.le_trans hn2 (by decide))).2
      clear hS3 hS4 HFS HCH HFB q1 q2 q3 q4 q5 hcp c0 c1 c2 c3 c4
      go_wp2
      go_ret
      exact ⟨by simp [hw3], HE.out⟩
  · rw [decide_eq_false hshort] at HSH
    go_wp2_with fail
    refine HSH.mono ?_
    clear HSH
    rintro e w2 ⟨rfl, hb2⟩
    have b2 : Below (w.heap.size + 1) w0 w2 := b1.trans (hb2.mono (by omega))
    have HE := hid (HFB.out _ b2).1
    go_wp2
    go_ret
    exact ⟨rfl, HE.out⟩
end Go.Proofs.YtmafaioohiaenaaDoor
