/- Contract of the document's own Check of a proof. -/
import Derived.Test.YtmafaioohiaenaaDoorYTex
import Derived.Test.YtmafaioohiaenaaDoorCheckG
namespace Go.Proofs.YtmafaioohiaenaaDoor
open Go.RowKit Go.Shelf
set_option linter.unusedVariables false
set_option linter.unusedSimpArgs false
set_option maxRecDepth 20000

theorem wrap_smallY (m : Nat) (h : m ≤ 100000) : wrap64 (m : Int) = (m : Int) ∧ IntKind.i64.wrap (m : Int) = (m : Int) :=
  ⟨by rw [wrap64_eq]; omega, i64_fit _ (by omega) (by omega)⟩

set_option maxHeartbeats 8000000 in
theorem ycheck_no (B : Nat) (p : Prf) (kv vv sv key : Value) (rt kb : List UInt8) (w : World) (hB : B ≤ w.heap.size) (hp : PAt B w p kv vv sv) (hk : Shows B w key kb) (hr : rt.length = 32) (hm : p.may = false) :
    Calls Tryd.prog 17 #[.agg (sumV rt), key, .agg #[.bool p.no, kv, vv, sv]] w fun e w' => e = .returned (.tuple #[.slice none 0 0, .bool false, .int .i64 5]) ∧ Below w.heap.size w w' := by
  obtain ⟨ka, kc, rfl, hk1, hk2, _⟩ := id hp.hk
  obtain ⟨va, vc, rfl, hv1, hv2, _⟩ := id hp.hv
  obtain ⟨sa, sc, rfl, hs1, hs2⟩ := hp.hs.form
  obtain ⟨ya, yc, rfl, hy1, hy2, _⟩ := id hk
  unfold maxLen at hs2
  obtain ⟨n0, n1, hbn, hsn⟩ := alloc2 w (.cells (sumV rt) 23) (.cells #[.bool p.no, .slice ka p.k.length kc, .slice va p.v.length vc, .slice sa p.st.length sc] 29)
  have HTX := ytexts_any B p _ _ _ _ (Nat.le_trans hB hbn.size) (hp.below (hbn.mono hB))
  have FS : ∀ W, Below (w.heap.size + 2) ((w.alloc (.cells (sumV rt) 23)).alloc (.cells #[.bool p.no, .slice ka p.k.length kc, .slice va p.v.length vc, .slice sa p.st.length sc] 29)) W → (W.heap[w.heap.size]? = some (.cells (sumV rt) 23 (0, 0)) ∧ W.heap[w.heap.size + 1]? = some (.cells #[.bool p.no, .slice ka p.k.length kc, .slice va p.v.length vc, .slice sa p.st.length sc] 29 (0, 0))) ∧ Below w.heap.size w W ∧ PAt B W p (.slice ka p.k.length kc) (.slice va p.v.length vc) (.slice sa p.st.length sc) ∧ B ≤ W.heap.size ∧ Shows B W (.slice ya kb.length yc) kb := fun W h => by
    have hb : Below w.heap.size w W := hbn.trans (h.mono (by omega))
    exact ⟨⟨(h.block _ (by omega)).trans n0, (h.block _ (by omega)).trans n1⟩, hb, hp.below (hb.mono hB), Nat.le_trans hB hb.size, hk.below (hb.mono hB)⟩
  have HFS := hid FS
  rw [hsn] at HTX
  clear FS n0 n1 hbn hp hk
  generalize hw2 : (w.alloc (.cells (sumV rt) 23)).alloc (.cells #[.bool p.no, .slice ka p.k.length kc, .slice va p.v.length vc, .slice sa p.st.length sc] 29) = w2 at *
  have HW2 := hid hw2
  clear hw2
  rw [show p.texts = [] by simp [Prf.texts, hm]] at HTX
  go_enter Tryd.func17, Tryd.ntmps17
  go_wp2_with fail
  rw [HW2.out]
  refine HTX.mono ?_
  clear HTX
  rintro e w3 ⟨rv, rfl, ⟨vs, hrow, _⟩, hb3⟩
  obtain ⟨ra, rc, rfl⟩ := row_form hrow
  have HE := hid (HFS.out _ hb3).2.1
  clear hrow hb3
  go_wp2_with fail
  have hSS : (fun W' : World => True) w3.drew := trivial
  refine last_region (fun W' : World => True) 13 (by kernel_rfl) ?_
  refine wpAnyE_take (i := 0) (v := ?_) rfl (by kernel_rfl) (by kernel_rfl) (by kernel_rfl) (by kernel_rfl) (by kernel_rfl) (fun _ _ _ h => h) (Or.inl ⟨by rfl, ?_⟩) (by assumption) ?_; rotate_left; (focus (intro w hSw; (try dsimp only at hSw); (try obtain ⟨hSw1, hSw2, hSw3⟩ := hSw); go_simp <;> with_reducible rfl)); (try simp only [Act.put, List.getElem_toArray, List.getElem_cons_zero, List.getElem_cons_succ, List.setIfInBounds_toArray, List.set_cons_zero, List.set_cons_succ])
  refine wpAnyE_take (i := 1) (v := ?_) rfl (by kernel_rfl) (by kernel_rfl) (by kernel_rfl) (by kernel_rfl) (by kernel_rfl) (fun _ _ _ h => h) (Or.inl ⟨by rfl, ?_⟩) (by assumption) ?_; rotate_left; (focus (intro w hSw; (try dsimp only at hSw); (try obtain ⟨hSw1, hSw2, hSw3⟩ := hSw); go_simp <;> with_reducible rfl)); (try simp only [Act.put, List.getElem_toArray, List.getElem_cons_zero, List.getElem_cons_succ, List.setIfInBounds_toArray, List.set_cons_zero, List.set_cons_succ])
  refine wpAnyE_take (i := 2) (v := .bool true) rfl (by kernel_rfl) (by kernel_rfl) (by kernel_rfl) (by kernel_rfl) (by kernel_rfl) (fun _ _ _ h => h) (Or.inl ⟨by rfl, fun W hW => by go_simp <;> simp⟩) trivial ?_
  simp only [Act.put, List.getElem_toArray, List.getElem_cons_zero, List.getElem_cons_succ, List.setIfInBounds_toArray, List.set_cons_zero, List.set_cons_succ]
  refine wpAnyE_take (i := 3) (v := ?_) rfl (by kernel_rfl) (by kernel_rfl) (by kernel_rfl) (by kernel_rfl) (by kernel_rfl) (fun _ _ _ h => h) (Or.inl ⟨by rfl, ?_⟩) (by assumption) ?_; rotate_left; (focus (intro w hSw; (try dsimp only at hSw); (try obtain ⟨hSw1, hSw2, hSw3⟩ := hSw); go_simp <;> with_reducible rfl)); (try simp only [Act.put, List.getElem_toArray, List.getElem_cons_zero, List.getElem_cons_succ, List.setIfInBounds_toArray, List.set_cons_zero, List.set_cons_succ])
  refine wpAnyE_take (i := 4) (v := undef) rfl (by kernel_rfl) (by kernel_rfl) (by kernel_rfl) (by kernel_rfl) (by kernel_rfl) (fun _ _ _ h => h) (Or.inr ⟨by rfl, rfl⟩) (by assumption) ?_; (try simp only [Act.put, List.getElem_toArray, List.getElem_cons_zero, List.getElem_cons_succ, List.setIfInBounds_toArray, List.set_cons_zero, List.set_cons_succ])
  refine wpAnyE_take (i := 5) (v := undef) rfl (by kernel_rfl) (by kernel_rfl) (by kernel_rfl) (by kernel_rfl) (by kernel_rfl) (fun _ _ _ h => h) (Or.inr ⟨by rfl, rfl⟩) (by assumption) ?_; (try simp only [Act.put, List.getElem_toArray, List.getElem_cons_zero, List.getElem_cons_succ, List.setIfInBounds_toArray, List.set_cons_zero, List.set_cons_succ])
  refine wpAnyE_take (i := 6) (v := undef) rfl (by kernel_rfl) (by kernel_rfl) (by kernel_rfl) (by kernel_rfl) (by kernel_rfl) (fun _ _ _ h => h) (Or.inr ⟨by rfl, rfl⟩) (by assumption) ?_; (try simp only [Act.put, List.getElem_toArray, List.getElem_cons_zero, List.getElem_cons_succ, List.setIfInBounds_toArray, List.set_cons_zero, List.set_cons_succ])
  refine wpAnyE_take (i := 7) (v := undef) rfl (by kernel_rfl) (by kernel_rfl) (by kernel_rfl) (by kernel_rfl) (by kernel_rfl) (fun _ _ _ h => h) (Or.inr ⟨by rfl, rfl⟩) (by assumption) ?_; (try simp only [Act.put, List.getElem_toArray, List.getElem_cons_zero, List.getElem_cons_succ, List.setIfInBounds_toArray, List.set_cons_zero, List.set_cons_succ])
  refine wpAnyE_take (i := 8) (v := undef) rfl (by kernel_rfl) (by kernel_rfl) (by kernel_rfl) (by kernel_rfl) (by kernel_rfl) (fun _ _ _ h => h) (Or.inr ⟨by rfl, rfl⟩) (by assumption) ?_; (try simp only [Act.put, List.getElem_toArray, List.getElem_cons_zero, List.getElem_cons_succ, List.setIfInBounds_toArray, List.set_cons_zero, List.set_cons_succ])
  refine wpAnyE_take (i := 9) (v := undef) rfl (by kernel_rfl) (by kernel_rfl) (by kernel_rfl) (by kernel_rfl) (by kernel_rfl) (fun _ _ _ h => h) (Or.inr ⟨by rfl, rfl⟩) (by assumption) ?_; (try simp only [Act.put, List.getElem_toArray, List.getElem_cons_zero, List.getElem_cons_succ, List.setIfInBounds_toArray, List.set_cons_zero, List.set_cons_succ])
  refine wpAnyE_take (i := 11) (v := undef) rfl (by kernel_rfl) (by kernel_rfl) (by kernel_rfl) (by kernel_rfl) (by kernel_rfl) (fun _ _ _ h => h) (Or.inr ⟨by rfl, rfl⟩) (by assumption) ?_; (try simp only [Act.put, List.getElem_toArray, List.getElem_cons_zero, List.getElem_cons_succ, List.setIfInBounds_toArray, List.set_cons_zero, List.set_cons_succ])
  refine takeE_skip (i := 10) (by kernel_rfl) rfl (by rfl) trivial ?_
  simp only [Act.put, List.getElem_toArray, List.getElem_cons_zero, List.getElem_cons_succ, List.setIfInBounds_toArray, List.set_cons_zero, List.set_cons_succ]
  refine wpAnyE_take (i := 12) (v := undef) rfl (by kernel_rfl) (by kernel_rfl) (by kernel_rfl) (by kernel_rfl) (by kernel_rfl) (fun _ _ _ h => h) (Or.inr ⟨by rfl, rfl⟩) (by assumption) ?_; (try simp only [Act.put, List.getElem_toArray, List.getElem_cons_zero, List.getElem_cons_succ, List.setIfInBounds_toArray, List.set_cons_zero, List.set_cons_succ])
  refine takeE_value (i := 13) (v := .bool true) (by kernel_rfl) rfl rfl (by rfl) trivial ?_
  simp only [Act.put, List.getElem_toArray, List.getElem_cons_zero, List.getElem_cons_succ, List.setIfInBounds_toArray, List.set_cons_zero, List.set_cons_succ]
  refine wpAnyE_done (by kernel_rfl) ?_ _
  simp only [only_normal]
  replace HE : Hid (Below w.heap.size w w3.drew) := hid (HE.out.trans (below_drewN _ _ 1))
  generalize w3.drew = w4 at *
  go_wp2
  go_ret3
  exact ⟨rfl, HE.out⟩

set_option maxHeartbeats 8000000 in
theorem ycheck_ne (B : Nat) (p : Prf) (kv vv sv key : Value) (rt kb : List UInt8) (w : World) (hB : B ≤ w.heap.size) (hp : PAt B w p kv vv sv) (hk : Shows B w key kb) (hr : rt.length = 32) (hm : p.may = true) (hne : p.root ≠ rt) :
    Calls Tryd.prog 17 #[.agg (sumV rt), key, .agg #[.bool p.no, kv, vv, sv]] w fun e w' => e = .returned (.tuple #[.slice none 0 0, .bool false, .int .i64 5]) ∧ Below w.heap.size w w' := by
  obtain ⟨ka, kc, rfl, hk1, hk2, _⟩ := id hp.hk
  obtain ⟨va, vc, rfl, hv1, hv2, _⟩ := id hp.hv
  obtain ⟨sa, sc, rfl, hs1, hs2⟩ := hp.hs.form
  obtain ⟨ya, yc, rfl, hy1, hy2, _⟩ := id hk
  unfold maxLen at hs2
  obtain ⟨n0, n1, hbn, hsn⟩ := alloc2 w (.cells (sumV rt) 23) (.cells #[.bool p.no, .slice ka p.k.length kc, .slice va p.v.length vc, .slice sa p.st.length sc] 29)
  have HTX := ytexts_any B p _ _ _ _ (Nat.le_trans hB hbn.size) (hp.below (hbn.mono hB))
  have FS : ∀ W, Below (w.heap.size + 2) ((w.alloc (.cells (sumV rt) 23)).alloc (.cells #[.bool p.no, .slice ka p.k.length kc, .slice va p.v.length vc, .slice sa p.st.length sc] 29)) W → (W.heap[w.heap.size]? = some (.cells (sumV rt) 23 (0, 0)) ∧ W.heap[w.heap.size + 1]? = some (.cells #[.bool p.no, .slice ka p.k.length kc, .slice va p.v.length vc, .slice sa p.st.length sc] 29 (0, 0))) ∧ Below w.heap.size w W ∧ PAt B W p (.slice ka p.k.length kc) (.slice va p.v.length vc) (.slice sa p.st.length sc) ∧ B ≤ W.heap.size ∧ Shows B W (.slice ya kb.length yc) kb := fun W h => by
    have hb : Below w.heap.size w W := hbn.trans (h.mono (by omega))
    exact ⟨⟨(h.block _ (by omega)).trans n0, (h.block _ (by omega)).trans n1⟩, hb, hp.below (hb.mono hB), Nat.le_trans hB hb.size, hk.below (hb.mono hB)⟩
  have HFS := hid FS
  rw [hsn] at HTX
  clear FS n0 n1 hbn hp hk
  generalize hw2 : (w.alloc (.cells (sumV rt) 23)).alloc (.cells #[.bool p.no, .slice ka p.k.length kc, .slice va p.v.length vc, .slice sa p.st.length sc] 29) = w2 at *
  have HW2 := hid hw2
  clear hw2
  rw [show p.texts = upZ p.endZ p.st.reverse by simp [Prf.texts, hm]] at HTX
  have hml := may_length p hm
  have hul := upZ_length p.st.reverse p.endZ
  have hll := upZ_last p.st.reverse p.endZ
  have htl := topU_le p p.st.reverse
  rw [List.length_reverse] at hul
  go_enter Tryd.func17, Tryd.ntmps17
  go_wp2_with fail
  rw [HW2.out]
  refine HTX.mono ?_
  clear HTX
  rintro e w3 ⟨rv, rfl, ⟨vs, hrow, hown⟩, hb3⟩
  have hvl : vs.length = p.st.length + 1 := by rw [hown.len, hul]
  obtain ⟨u, hu⟩ : ∃ u, vs[p.st.length]? = some u := ⟨_, List.getElem?_eq_getElem (by omega)⟩
  rw [List.getLast?_eq_getElem?, hul, Nat.add_sub_cancel] at hll
  have hsu : Says w3 u (topU p.endZ p.st.reverse) := (shows_of_owns (hown.own _ _ _ hu hll).1).2
  rw [hul] at hrow
  obtain ⟨g, cap, rfl, _, hgl⟩ := hrow.form (by omega)
  obtain ⟨ua, uc, rfl, _⟩ := id hsu
  have hcell : w3.cell? ⟨g, p.st.length, none⟩ = some (.slice ua (topU p.endZ p.st.reverse).length uc) := (hrow.cellAt p.st.length (by omega)).trans hu
  obtain ⟨cur, hcur⟩ : ∃ cur, topU p.endZ p.st.reverse = cur := ⟨_, rfl⟩
  have hroot : p.root = sha cur := by rw [← hcur]; rfl
  rw [hcur] at hcell hsu htl
  rw [hroot] at hne
  have hq : ∀ W, (Op.equalIn 10000 23 (.agg (sumV (sha cur))) (.agg (sumV rt))).run Tryd.prog W = .ok false W := fun W => by
    have := eq_sum (sha cur) rt (sha_length _) hr W
    rw [decide_eq_false hne] at this
    exact this
  have HRW := refRaw_any w3.heap.size (.slice ua cur.length uc) cur w3.drew (Nat.le_refl _) (hsu.below (below_drewN _ _ 1)) htl
  have HLR : Hid (∀ W : World, W.heap[w.heap.size]? = some (.cells (sumV rt) 23 (0, 0)) → (loadVar 23 ⟨w.heap.size, 0, none⟩).run Tryd.prog W = .ok (.agg (sumV rt)) W) := hid (fun W hW => load_sumZ hW hr)
  have hzw3 : w.heap.size + 2 ≤ w3.heap.size := by have := hb3.size; rw [hsn] at this; exact this
  have hS3 : (fun W' : World => W'.heap[w.heap.size]? = some (.cells (sumV rt) 23 (0, 0)) ∧ W'.cell? ⟨g, p.st.length, none⟩ = some (.slice ua cur.length uc)) w3.drew := ⟨(HFS.out w3 hb3).1.1, hcell⟩
  obtain ⟨D, hD⟩ : ∃ D, sumV (sha cur) = D := ⟨_, rfl⟩
  have hD2 : ((sha cur).map by8).toArray = D := hD
  rw [hD] at hq
  rw [hD2] at HRW
  generalize sumV rt = R at *
  obtain ⟨n, hn⟩ : ∃ n, p.st.length + 1 = n := ⟨_, rfl⟩
  rw [hn]
  have hlen0 : ((n : Int) == 0) = false := by rw [beq_eq_false_iff_ne]; omega
  have hlen1 : (n : Int) - 1 = (p.st.length : Int) := by omega
  have hn2 : n ≤ 1082 := by omega
  have HPL : Hid (p.st.length = p.st.length) := hid rfl
  obtain ⟨m, hmm⟩ : ∃ m, p.st.length = m := ⟨_, rfl⟩
  rw [hmm] at hS3 hlen1 hcell
  have hm81 : m ≤ 1081 := hmm ▸ hml
  have hw1 := (wrap_smallY m (Nat.le_trans hm81 (by decide))).1
  have hw2q := (wrap_smallY m (Nat.le_trans hm81 (by decide))).2
  have hmn : m < n := by omega
  have HMM := hid hmm
  clear hul hll hown hrow hu hvl hsu hcur hroot hne hD hD2 hmm hn
  go_wp2_with fail
  refine last_region (fun W' : World => W'.heap[w.heap.size]? = some (.cells R 23 (0, 0)) ∧ W'.cell? ⟨g, m, none⟩ = some (.slice ua cur.length uc)) 13 (by kernel_rfl) ?_
  refine wpAnyE_take (i := 0) (v := ?_) rfl (by kernel_rfl) (by kernel_rfl) (by kernel_rfl) (by kernel_rfl) (by kernel_rfl) (fun _ _ _ h => h) (Or.inl ⟨by rfl, ?_⟩) (by assumption) ?_; rotate_left; (focus (intro w hSw; (try dsimp only at hSw); (try obtain ⟨hSw1, hSw2, hSw3⟩ := hSw); go_simp <;> with_reducible rfl)); (try simp only [Act.put, List.getElem_toArray, List.getElem_cons_zero, List.getElem_cons_succ, List.setIfInBounds_toArray, List.set_cons_zero, List.set_cons_succ])
  refine wpAnyE_take (i := 1) (v := ?_) rfl (by kernel_rfl) (by kernel_rfl) (by kernel_rfl) (by kernel_rfl) (by kernel_rfl) (fun _ _ _ h => h) (Or.inl ⟨by rfl, ?_⟩) (by assumption) ?_; rotate_left; (focus (intro w hSw; (try dsimp only at hSw); (try obtain ⟨hSw1, hSw2, hSw3⟩ := hSw); go_simp <;> with_reducible rfl)); (try simp only [Act.put, List.getElem_toArray, List.getElem_cons_zero, List.getElem_cons_succ, List.setIfInBounds_toArray, List.set_cons_zero, List.set_cons_succ])
  refine wpAnyE_take (i := 2) (v := .bool false) rfl (by kernel_rfl) (by kernel_rfl) (by kernel_rfl) (by kernel_rfl) (by kernel_rfl) (fun _ _ _ h => h) (Or.inl ⟨by rfl, fun W hW => by go_simp <;> first | with_reducible rfl | simp [hlen0]⟩) hS3 ?_
  simp only [Act.put, List.getElem_toArray, List.getElem_cons_zero, List.getElem_cons_succ, List.setIfInBounds_toArray, List.set_cons_zero, List.set_cons_succ]
  refine wpAnyE_take (i := 3) (v := ?_) rfl (by kernel_rfl) (by kernel_rfl) (by kernel_rfl) (by kernel_rfl) (by kernel_rfl) (fun _ _ _ h => h) (Or.inl ⟨by rfl, ?_⟩) (by assumption) ?_; rotate_left; (focus (intro w hSw; (try dsimp only at hSw); (try obtain ⟨hSw1, hSw2, hSw3⟩ := hSw); go_simp <;> with_reducible rfl)); (try simp only [Act.put, List.getElem_toArray, List.getElem_cons_zero, List.getElem_cons_succ, List.setIfInBounds_toArray, List.set_cons_zero, List.set_cons_succ])
  refine wpAnyE_take (i := 4) (v := ?_) rfl (by kernel_rfl) (by kernel_rfl) (by kernel_rfl) (by kernel_rfl) (by kernel_rfl) (fun _ _ _ h => h) (Or.inl ⟨by rfl, ?_⟩) (by assumption) ?_; rotate_left; (focus (intro w hSw; (try dsimp only at hSw); (try obtain ⟨hSw1, hSw2, hSw3⟩ := hSw); go_simp <;> with_reducible rfl)); (try simp only [Act.put, List.getElem_toArray, List.getElem_cons_zero, List.getElem_cons_succ, List.setIfInBounds_toArray, List.set_cons_zero, List.set_cons_succ])
  refine wpAnyE_take (i := 5) (v := ?_) rfl (by kernel_rfl) (by kernel_rfl) (by kernel_rfl) (by kernel_rfl) (by kernel_rfl) (fun _ _ _ h => h) (Or.inl ⟨by rfl, ?_⟩) (by assumption) ?_; rotate_left; (focus (intro w hSw; (try dsimp only at hSw); (try obtain ⟨hSw1, hSw2, hSw3⟩ := hSw); go_simp <;> with_reducible rfl)); (try simp only [Act.put, List.getElem_toArray, List.getElem_cons_zero, List.getElem_cons_succ, List.setIfInBounds_toArray, List.set_cons_zero, List.set_cons_succ])
  refine wpAnyE_take (i := 6) (v := ?_) rfl (by kernel_rfl) (by kernel_rfl) (by kernel_rfl) (by kernel_rfl) (by kernel_rfl) (fun _ _ _ h => h) (Or.inl ⟨by rfl, ?_⟩) (by assumption) ?_; rotate_left; (focus (intro w hSw; (try dsimp only at hSw); (try obtain ⟨hSw1, hSw2, hSw3⟩ := hSw); go_simp <;> with_reducible rfl)); (try simp only [Act.put, List.getElem_toArray, List.getElem_cons_zero, List.getElem_cons_succ, List.setIfInBounds_toArray, List.set_cons_zero, List.set_cons_succ])
  refine wpAnyE_take (i := 7) (v := .int .i64 (m : Int)) rfl (by kernel_rfl) (by kernel_rfl) (by kernel_rfl) (by kernel_rfl) (by kernel_rfl) (fun _ _ _ h => h) (Or.inl ⟨by rfl, fun W hW => by go_simp <;> first | with_reducible rfl | simp [hlen1, hw1, hw2q]⟩) hS3 ?_
  simp only [Act.put, List.getElem_toArray, List.getElem_cons_zero, List.getElem_cons_succ, List.setIfInBounds_toArray, List.set_cons_zero, List.set_cons_succ]
  refine wpAnyE_take (i := 8) (v := .pointer (some ⟨g, m, none⟩)) rfl (by kernel_rfl) (by kernel_rfl) (by kernel_rfl) (by kernel_rfl) (by kernel_rfl) (fun _ _ _ h => h) (Or.inl ⟨by rfl, fun W _ => by go_simp <;> first | with_reducible rfl | (intro h; exact absurd h (by omega)) | (rw [if_pos (by omega)]; rfl) | rw [if_pos (by omega)] | simp [hmn]⟩) hS3 ?_
  simp only [Act.put, List.getElem_toArray, List.getElem_cons_zero, List.getElem_cons_succ, List.setIfInBounds_toArray, List.set_cons_zero, List.set_cons_succ]
  refine wpAnyE_take (i := 9) (v := .slice ua cur.length uc) rfl (by kernel_rfl) (by kernel_rfl) (by kernel_rfl) (by kernel_rfl) (by kernel_rfl) (fun _ _ _ h => h) (yields_val 24 (.tmp 21) rfl ⟨g, m, none⟩ (by kernel_rfl) _ (by rfl) (fun W hW => run_load_slice W 24 _ Tryd.underlying24 ⟨g, m, none⟩ _ hW.2)) hS3 ?_
  simp only [Act.put, List.getElem_toArray, List.getElem_cons_zero, List.getElem_cons_succ, List.setIfInBounds_toArray, List.set_cons_zero, List.set_cons_succ]
  refine wpAnyE_take (i := 11) (v := .agg R) rfl (by kernel_rfl) (by kernel_rfl) (by kernel_rfl) (by kernel_rfl) (by kernel_rfl) (fun _ _ _ h => h) (yields_val 23 (.tmp 3) rfl ⟨w.heap.size, 0, none⟩ (by kernel_rfl) _ (by rfl) (fun W hW => HLR.out W hW.1)) hS3 ?_
  simp only [Act.put, List.getElem_toArray, List.getElem_cons_zero, List.getElem_cons_succ, List.setIfInBounds_toArray, List.set_cons_zero, List.set_cons_succ]
  refine takeE_callw (i := 10) #[.slice ua cur.length uc] (fun u w' => u = .agg D ∧ Below w3.heap.size w3 w') (by kernel_rfl) rfl (by rfl) rfl (by kernel_rfl) (enters_of Tryd.func11 (by kernel_rfl) rfl) (HRW.mono fun e w' ⟨h1, h2⟩ => ⟨_, h1, rfl, (below_drewN _ _ 1).trans h2⟩) ?_
  rintro _ w4 ⟨rfl, hb4⟩
  have hS4 : (fun W' : World => W'.heap[w.heap.size]? = some (.cells R 23 (0, 0)) ∧ W'.cell? ⟨g, m, none⟩ = some (.slice ua cur.length uc)) w4 := ⟨(hb4.block _ (by omega)).trans hS3.1, (hb4.cell (p := ⟨g, m, none⟩) hgl).trans hcell⟩
  refine ⟨hS4, ?_⟩
  simp only [Act.put, List.getElem_toArray, List.getElem_cons_zero, List.getElem_cons_succ, List.setIfInBounds_toArray, List.set_cons_zero, List.set_cons_succ]
  refine wpAnyE_take (i := 12) (v := .bool (!false)) rfl (by kernel_rfl) (by kernel_rfl) (by kernel_rfl) (by kernel_rfl) (by kernel_rfl) (fun _ _ _ h => h) (yields_neq (.tmp 23) (.tmp 24) rfl D R false (by kernel_rfl) (by kernel_rfl) (by rfl) hq) hS4 ?_
  simp only [Act.put, List.getElem_toArray, List.getElem_cons_zero, List.getElem_cons_succ, List.setIfInBounds_toArray, List.set_cons_zero, List.set_cons_succ]
  refine takeE_value (i := 13) (v := .bool true) (by kernel_rfl) rfl rfl (by rfl) hS4 ?_
  simp only [Act.put, List.getElem_toArray, List.getElem_cons_zero, List.getElem_cons_succ, List.setIfInBounds_toArray, List.set_cons_zero, List.set_cons_succ]
  refine wpAnyE_done (by kernel_rfl) ?_ _
  simp only [only_normal]
  have hb24 : Below (w.heap.size + 2) w2 w4 := hb3.trans (hb4.mono hzw3)
  have HE := hid (HFS.out _ hb24).2.1
  clear hS3 hS4 hb24 hb4 hb3 HFS hq HRW
  go_wp2
  go_ret3
  exact ⟨rfl, HE.out⟩

end Go.Proofs.YtmafaioohiaenaaDoor
