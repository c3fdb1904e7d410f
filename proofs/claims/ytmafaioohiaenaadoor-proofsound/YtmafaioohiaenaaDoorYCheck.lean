/- Contract of the document's own Check of a proof. -/
import Derived.Test.YtmafaioohiaenaaDoorYCheckA
namespace Go.Proofs.YtmafaioohiaenaaDoor
open Go.RowKit Go.Shelf
set_option linter.unusedVariables false
set_option linter.unusedSimpArgs false
set_option maxRecDepth 20000

theorem list_beqY (a b : List UInt8) : (a == b) = decide (a = b) := by
  by_cases h : a = b
  · rw [decide_eq_true h, h]; simp
  · rw [decide_eq_false h]; simpa using h

theorem str_beqY (a b : List UInt8) : ((str8 a).toList == (str8 b).toList) = decide (a = b) := by
  rw [ByteArray.toList_eq, ByteArray.toList_eq]
  exact list_beqY a b

theorem stps_cells {B : Nat} {w : World} {a : Option Addr} {l c : Nat} {L : List Zst} (h : Stps B w (.slice a l c) L) (k : Nat) (s : Zst) (hs : L[k]? = some s) :
    ∃ b off, a = some ⟨b, off, none⟩ ∧ ZOk s ∧ w.cell? ⟨b, off + k * 34, none⟩ = some (.int .i64 s.1) ∧ w.cell? ⟨b, off + k * 34 + 1, none⟩ = some (.bool s.2.1) := by
  obtain ⟨a', c', e, h1, h2, hok, hc⟩ := h
  simp only [Value.slice.injEq] at e
  obtain ⟨rfl, _, _⟩ := e
  obtain ⟨b, off, rfl, _, hcl⟩ := hc (by rintro rfl; simp at hs)
  exact ⟨b, off, rfl, hok s (List.mem_of_getElem? hs), hcl k s hs 0 _ rfl, hcl k s hs 1 _ rfl⟩

set_option maxHeartbeats 8000000 in
theorem ycheck_go (B : Nat) (p : Prf) (kv vv sv key : Value) (rt kb : List UInt8) (w : World) (hB : B ≤ w.heap.size) (hp : PAt B w p kv vv sv) (hk : Shows B w key kb) (hr : rt.length = 32) (hkl : kb.length ≤ 140737488355328) (hm : p.may = true) (hne : p.root = rt) (b : Bool) (val : List UInt8) (hbb : (p.no || !decide (p.k = kb)) = b) (hval : (if b then [] else p.v) = val) (Z : Bool) (hZ : leadsZ kb p.st = Z) :
    Calls Tryd.prog 17 #[.agg (sumV rt), key, .agg #[.bool p.no, kv, vv, sv]] w fun e w' => (Z = false ∧ e = .returned (.tuple #[.slice none 0 0, .bool false, .int .i64 5]) ∧ Below w.heap.size w w') ∨ (Z = true ∧ ∃ v', e = .returned (.tuple #[v', .bool (!b), .int .i64 0]) ∧ Copy w.heap.size w' v' val ∧ Below w.heap.size w w') := by
  obtain ⟨ka, kc, rfl, hk1, hk2, _⟩ := id hp.hk
  obtain ⟨va, vc, rfl, hv1, hv2, _⟩ := id hp.hv
  obtain ⟨sa, sc, rfl, hs1, hs2⟩ := hp.hs.form
  obtain ⟨ya, yc, rfl, hy1, hy2, _⟩ := id hk
  unfold maxLen at hs2
  obtain ⟨n0, n1, hbn, hsn⟩ := alloc2 w (.cells (sumV rt) 23) (.cells #[.bool p.no, .slice ka p.k.length kc, .slice va p.v.length vc, .slice sa p.st.length sc] 29)
  have HTX := ytexts_any B p _ _ _ _ (Nat.le_trans hB hbn.size) (hp.below (hbn.mono hB))
  have FS : ∀ W, Below (w.heap.size + 2) ((w.alloc (.cells (sumV rt) 23)).alloc (.cells #[.bool p.no, .slice ka p.k.length kc, .slice va p.v.length vc, .slice sa p.st.length sc] 29)) W → (W.heap[w.heap.size]? = some (.cells (sumV rt) 23 (0, 0)) ∧ W.heap[w.heap.size + 1]? = some (.cells #[.bool p.no, .slice ka p.k.length kc, .slice va p.v.length vc, .slice sa p.st.length sc] 29 (0, 0))) ∧ Below w.heap.size w W ∧ PAt B W p (.slice ka p.k.length kc) (.slice va p.v.length vc) (.slice sa p.st.length sc) ∧ B ≤ W.heap.size ∧ Shows B W (.slice ya kb.length yc) kb := fun W h => by
    have hb : Below w.heap.size w W := hbn.trans (h.mono (by omega))
    exact ⟨⟨(h.block _ (by omega)).trans n0, (h.block _ (by omega)).trans n1⟩, hb, hp.below (hb.mono hB), Nat.le_trans hB hb.size, hk.below (hb.mono hB)⟩
  have HFS := hid FS
  rw [hsn] at HTX
  clear FS n0 n1 hbn hp hk
  generalize hw2 : (w.alloc (.cells (sumV rt) 23)).alloc (.cells #[.bool p.no, .slice ka p.k.length kc, .slice va p.v.length vc, .slice sa p.st.length sc] 29) = w2 at *
  have HW2 := hid hw2
  clear hw2
  have HBB := hid hbb
  have HVL := hid hval
  have HZ := hid hZ
  clear hbb hval hZ
  rw [show p.texts = upZ p.endZ p.st.reverse by simp [Prf.texts, hm]] at HTX
  have hml := may_length p hm
  have hul := upZ_length p.st.reverse p.endZ
  have hll := upZ_last p.st.reverse p.endZ
  have htl := topU_le p p.st.reverse
  rw [List.length_reverse] at hul
  go_enter Tryd.func17, Tryd.ntmps17
  go_wp2_with fail
  rw [HW2.out]
  refine HTX.mono ?_
  clear HTX
  rintro e w3 ⟨rv, rfl, ⟨vs, hrow, hown⟩, hb3⟩
  have hvl : vs.length = p.st.length + 1 := by rw [hown.len, hul]
  obtain ⟨u, hu⟩ : ∃ u, vs[p.st.length]? = some u := ⟨_, List.getElem?_eq_getElem (by omega)⟩
  rw [List.getLast?_eq_getElem?, hul, Nat.add_sub_cancel] at hll
  have hsu : Says w3 u (topU p.endZ p.st.reverse) := (shows_of_owns (hown.own _ _ _ hu hll).1).2
  rw [hul] at hrow
  obtain ⟨g, cap, rfl, _, hgl⟩ := hrow.form (by omega)
  obtain ⟨ua, uc, rfl, _⟩ := id hsu
  have hcell : w3.cell? ⟨g, p.st.length, none⟩ = some (.slice ua (topU p.endZ p.st.reverse).length uc) := (hrow.cellAt p.st.length (by omega)).trans hu
  obtain ⟨cur, hcur⟩ : ∃ cur, topU p.endZ p.st.reverse = cur := ⟨_, rfl⟩
  have hroot : p.root = sha cur := by rw [← hcur]; rfl
  rw [hcur] at hcell hsu htl
  rw [hroot] at hne
  have hq : ∀ W, (Op.equalIn 10000 23 (.agg (sumV (sha cur))) (.agg (sumV rt))).run Tryd.prog W = .ok true W := fun W => by
    have := eq_sum (sha cur) rt (sha_length _) hr W
    rw [decide_eq_true hne] at this
    exact this
  have HRW := refRaw_any w3.heap.size (.slice ua cur.length uc) cur w3.drew (Nat.le_refl _) (hsu.below (below_drewN _ _ 1)) htl
  have HLR : Hid (∀ W : World, W.heap[w.heap.size]? = some (.cells (sumV rt) 23 (0, 0)) → (loadVar 23 ⟨w.heap.size, 0, none⟩).run Tryd.prog W = .ok (.agg (sumV rt)) W) := hid (fun W hW => load_sumZ hW hr)
  have hzw3 : w.heap.size + 2 ≤ w3.heap.size := by have := hb3.size; rw [hsn] at this; exact this
  have hS3 : (fun W' : World => W'.heap[w.heap.size]? = some (.cells (sumV rt) 23 (0, 0)) ∧ W'.cell? ⟨g, p.st.length, none⟩ = some (.slice ua cur.length uc)) w3.drew := ⟨(HFS.out w3 hb3).1.1, hcell⟩
  obtain ⟨D, hD⟩ : ∃ D, sumV (sha cur) = D := ⟨_, rfl⟩
  have hD2 : ((sha cur).map by8).toArray = D := hD
  rw [hD] at hq
  rw [hD2] at HRW
  generalize sumV rt = R at *
  obtain ⟨n, hn⟩ : ∃ n, p.st.length + 1 = n := ⟨_, rfl⟩
  rw [hn]
  have hlen0 : ((n : Int) == 0) = false := by rw [beq_eq_false_iff_ne]; omega
  have hlen1 : (n : Int) - 1 = (p.st.length : Int) := by omega
  have hn2 : n ≤ 1082 := by omega
  have HPL : Hid (p.st.length = p.st.length) := hid rfl
  obtain ⟨m, hmm⟩ : ∃ m, p.st.length = m := ⟨_, rfl⟩
  rw [hmm] at hS3 hlen1 hcell
  have hm81 : m ≤ 1081 := hmm ▸ hml
  have hw1 := (wrap_smallY m (Nat.le_trans hm81 (by decide))).1
  have hw2q := (wrap_smallY m (Nat.le_trans hm81 (by decide))).2
  have hmn : m < n := by omega
  have HMM := hid hmm
  clear hul hll hown hrow hu hvl hsu hcur hroot hne hD hD2 hmm hn
  go_wp2_with fail
  refine last_region (fun W' : World => W'.heap[w.heap.size]? = some (.cells R 23 (0, 0)) ∧ W'.cell? ⟨g, m, none⟩ = some (.slice ua cur.length uc)) 13 (by kernel_rfl) ?_
  refine wpAnyE_take (i := 0) (v := ?_) rfl (by kernel_rfl) (by kernel_rfl) (by kernel_rfl) (by kernel_rfl) (by kernel_rfl) (fun _ _ _ h => h) (Or.inl ⟨by rfl, ?_⟩) (by assumption) ?_; rotate_left; (focus (intro w hSw; (try dsimp only at hSw); (try obtain ⟨hSw1, hSw2, hSw3⟩ := hSw); go_simp <;> with_reducible rfl)); (try simp only [Act.put, List.getElem_toArray, List.getElem_cons_zero, List.getElem_cons_succ, List.setIfInBounds_toArray, List.set_cons_zero, List.set_cons_succ])
  refine wpAnyE_take (i := 1) (v := ?_) rfl (by kernel_rfl) (by kernel_rfl) (by kernel_rfl) (by kernel_rfl) (by kernel_rfl) (fun _ _ _ h => h) (Or.inl ⟨by rfl, ?_⟩) (by assumption) ?_; rotate_left; (focus (intro w hSw; (try dsimp only at hSw); (try obtain ⟨hSw1, hSw2, hSw3⟩ := hSw); go_simp <;> with_reducible rfl)); (try simp only [Act.put, List.getElem_toArray, List.getElem_cons_zero, List.getElem_cons_succ, List.setIfInBounds_toArray, List.set_cons_zero, List.set_cons_succ])
  refine wpAnyE_take (i := 2) (v := .bool false) rfl (by kernel_rfl) (by kernel_rfl) (by kernel_rfl) (by kernel_rfl) (by kernel_rfl) (fun _ _ _ h => h) (Or.inl ⟨by rfl, fun W hW => by go_simp <;> first | with_reducible rfl | simp [hlen0]⟩) hS3 ?_
  simp only [Act.put, List.getElem_toArray, List.getElem_cons_zero, List.getElem_cons_succ, List.setIfInBounds_toArray, List.set_cons_zero, List.set_cons_succ]
  refine wpAnyE_take (i := 3) (v := ?_) rfl (by kernel_rfl) (by kernel_rfl) (by kernel_rfl) (by kernel_rfl) (by kernel_rfl) (fun _ _ _ h => h) (Or.inl ⟨by rfl, ?_⟩) (by assumption) ?_; rotate_left; (focus (intro w hSw; (try dsimp only at hSw); (try obtain ⟨hSw1, hSw2, hSw3⟩ := hSw); go_simp <;> with_reducible rfl)); (try simp only [Act.put, List.getElem_toArray, List.getElem_cons_zero, List.getElem_cons_succ, List.setIfInBounds_toArray, List.set_cons_zero, List.set_cons_succ])
  refine wpAnyE_take (i := 4) (v := ?_) rfl (by kernel_rfl) (by kernel_rfl) (by kernel_rfl) (by kernel_rfl) (by kernel_rfl) (fun _ _ _ h => h) (Or.inl ⟨by rfl, ?_⟩) (by assumption) ?_; rotate_left; (focus (intro w hSw; (try dsimp only at hSw); (try obtain ⟨hSw1, hSw2, hSw3⟩ := hSw); go_simp <;> with_reducible rfl)); (try simp only [Act.put, List.getElem_toArray, List.getElem_cons_zero, List.getElem_cons_succ, List.setIfInBounds_toArray, List.set_cons_zero, List.set_cons_succ])
  refine wpAnyE_take (i := 5) (v := ?_) rfl (by kernel_rfl) (by kernel_rfl) (by kernel_rfl) (by kernel_rfl) (by kernel_rfl) (fun _ _ _ h => h) (Or.inl ⟨by rfl, ?_⟩) (by assumption) ?_; rotate_left; (focus (intro w hSw; (try dsimp only at hSw); (try obtain ⟨hSw1, hSw2, hSw3⟩ := hSw); go_simp <;> with_reducible rfl)); (try simp only [Act.put, List.getElem_toArray, List.getElem_cons_zero, List.getElem_cons_succ, List.setIfInBounds_toArray, List.set_cons_zero, List.set_cons_succ])
  refine wpAnyE_take (i := 6) (v := ?_) rfl (by kernel_rfl) (by kernel_rfl) (by kernel_rfl) (by kernel_rfl) (by kernel_rfl) (fun _ _ _ h => h) (Or.inl ⟨by rfl, ?_⟩) (by assumption) ?_; rotate_left; (focus (intro w hSw; (try dsimp only at hSw); (try obtain ⟨hSw1, hSw2, hSw3⟩ := hSw); go_simp <;> with_reducible rfl)); (try simp only [Act.put, List.getElem_toArray, List.getElem_cons_zero, List.getElem_cons_succ, List.setIfInBounds_toArray, List.set_cons_zero, List.set_cons_succ])
  refine wpAnyE_take (i := 7) (v := .int .i64 (m : Int)) rfl (by kernel_rfl) (by kernel_rfl) (by kernel_rfl) (by kernel_rfl) (by kernel_rfl) (fun _ _ _ h => h) (Or.inl ⟨by rfl, fun W hW => by go_simp <;> first | with_reducible rfl | simp [hlen1, hw1, hw2q]⟩) hS3 ?_
  simp only [Act.put, List.getElem_toArray, List.getElem_cons_zero, List.getElem_cons_succ, List.setIfInBounds_toArray, List.set_cons_zero, List.set_cons_succ]
  refine wpAnyE_take (i := 8) (v := .pointer (some ⟨g, m, none⟩)) rfl (by kernel_rfl) (by kernel_rfl) (by kernel_rfl) (by kernel_rfl) (by kernel_rfl) (fun _ _ _ h => h) (Or.inl ⟨by rfl, fun W _ => by go_simp <;> first | with_reducible rfl | (intro h; exact absurd h (by omega)) | (rw [if_pos (by omega)]; rfl) | rw [if_pos (by omega)] | simp [hmn]⟩) hS3 ?_
  simp only [Act.put, List.getElem_toArray, List.getElem_cons_zero, List.getElem_cons_succ, List.setIfInBounds_toArray, List.set_cons_zero, List.set_cons_succ]
  refine wpAnyE_take (i := 9) (v := .slice ua cur.length uc) rfl (by kernel_rfl) (by kernel_rfl) (by kernel_rfl) (by kernel_rfl) (by kernel_rfl) (fun _ _ _ h => h) (yields_val 24 (.tmp 21) rfl ⟨g, m, none⟩ (by kernel_rfl) _ (by rfl) (fun W hW => run_load_slice W 24 _ Tryd.underlying24 ⟨g, m, none⟩ _ hW.2)) hS3 ?_
  simp only [Act.put, List.getElem_toArray, List.getElem_cons_zero, List.getElem_cons_succ, List.setIfInBounds_toArray, List.set_cons_zero, List.set_cons_succ]
  refine wpAnyE_take (i := 11) (v := .agg R) rfl (by kernel_rfl) (by kernel_rfl) (by kernel_rfl) (by kernel_rfl) (by kernel_rfl) (fun _ _ _ h => h) (yields_val 23 (.tmp 3) rfl ⟨w.heap.size, 0, none⟩ (by kernel_rfl) _ (by rfl) (fun W hW => HLR.out W hW.1)) hS3 ?_
  simp only [Act.put, List.getElem_toArray, List.getElem_cons_zero, List.getElem_cons_succ, List.setIfInBounds_toArray, List.set_cons_zero, List.set_cons_succ]
  refine takeE_callw (i := 10) #[.slice ua cur.length uc] (fun u w' => u = .agg D ∧ Below w3.heap.size w3 w') (by kernel_rfl) rfl (by rfl) rfl (by kernel_rfl) (enters_of Tryd.func11 (by kernel_rfl) rfl) (HRW.mono fun e w' ⟨h1, h2⟩ => ⟨_, h1, rfl, (below_drewN _ _ 1).trans h2⟩) ?_
  rintro _ w4 ⟨rfl, hb4⟩
  have hS4 : (fun W' : World => W'.heap[w.heap.size]? = some (.cells R 23 (0, 0)) ∧ W'.cell? ⟨g, m, none⟩ = some (.slice ua cur.length uc)) w4 := ⟨(hb4.block _ (by omega)).trans hS3.1, (hb4.cell (p := ⟨g, m, none⟩) hgl).trans hcell⟩
  refine ⟨hS4, ?_⟩
  simp only [Act.put, List.getElem_toArray, List.getElem_cons_zero, List.getElem_cons_succ, List.setIfInBounds_toArray, List.set_cons_zero, List.set_cons_succ]
  refine wpAnyE_take (i := 12) (v := .bool (!true)) rfl (by kernel_rfl) (by kernel_rfl) (by kernel_rfl) (by kernel_rfl) (by kernel_rfl) (fun _ _ _ h => h) (yields_neq (.tmp 23) (.tmp 24) rfl D R true (by kernel_rfl) (by kernel_rfl) (by rfl) hq) hS4 ?_
  simp only [Act.put, List.getElem_toArray, List.getElem_cons_zero, List.getElem_cons_succ, List.setIfInBounds_toArray, List.set_cons_zero, List.set_cons_succ]
  refine takeE_value (i := 13) (v := .bool false) (by kernel_rfl) rfl rfl (by rfl) hS4 ?_
  simp only [Act.put, List.getElem_toArray, List.getElem_cons_zero, List.getElem_cons_succ, List.setIfInBounds_toArray, List.set_cons_zero, List.set_cons_succ]
  refine wpAnyE_done (by kernel_rfl) ?_ _
  simp only [only_normal]
  have hb24 : Below (w.heap.size + 2) w2 w4 := hb3.trans (hb4.mono hzw3)
  have HB4 := hid hb24
  clear hS3 hS4 hb24 hb4 hb3 hq HRW hcell hlen1 hw1 hw2q hmn hgl
  have HSL : Hid (p.st.length ≤ 1081) := hid hml
  obtain ⟨_, c1', c2', c3'⟩ := proof_cells (HFS.out w4 HB4.out).1.2
  obtain ⟨c0', _⟩ := proof_cells (HFS.out w4 HB4.out).1.2
  go_wp2_with fail
  go_loopw [10] (fun i wr => ∃ (k : Nat), k ≤ p.st.length ∧ i = .int .i64 (k : Int) ∧ Hid (leadsZ kb (p.st.drop k) = Z) ∧ Hid (Below (w.heap.size + 2) w2 wr)) (fun i _ => p.st.length - (intOf i).toNat)
  case atStart => exact ⟨0, by omega, rfl, hid HZ.out, HB4⟩
  case round =>
    obtain ⟨k, hk, rfl, HR, HB⟩ := hrel
    clear HB4 c0' c1' c2' c3'
    obtain ⟨⟨f0, f1⟩, f2, f3, f4, f5⟩ := HFS.out wr HB.out
    obtain ⟨d0, d1, d2, d3⟩ := proof_cells f1
    have HE := hid f2
    have HP := hid f3
    have HKY := hid f5
    have HBW := hid f4
    clear f0 f1 f2 f3 f4 f5
    have HX2 : Hid (∀ m, Below w.heap.size w (wr.drewN m)) := hid (fun m => HE.out.trans (below_drewN _ _ m))
    have HX3 : Hid (∀ m, Below (w.heap.size + 2) w2 (wr.drewN m)) := hid (fun m => HB.out.trans (below_drewN _ _ m))
    by_cases hlt : k < p.st.length
    · have hki : (k : Int) < (p.st.length : Int) := by omega
      have hk0 : (0 : Int) ≤ (k : Int) := by omega
      have hs := List.getElem?_eq_getElem hlt
      have hd : p.st.drop k = p.st[k] :: p.st.drop (k + 1) := List.drop_eq_getElem_cons hlt
      rw [hd] at HR
      generalize p.st[k] = s at *
      obtain ⟨b', off, rfl, hok, q0, q1⟩ := stps_cells HP.out.hs k s hs
      obtain ⟨i, sd, ot⟩ := s
      simp only at q0 q1
      have hbit := fun m => xbit_any B (.slice ya kb.length yc) kb i (wr.drewN m) (HKY.out.below (below_drewN _ _ _)) hkl hok.lo hok.hi
      have HK := hid hlt
      clear hs hd hok
      cases hq : (sd == bitI kb i) with
      | true =>
        have HR2 : Hid (leadsZ kb (p.st.drop (k + 1)) = Z) := hid (by rw [← HR.out]; simp only [leadsZ, List.all_cons, hq, Bool.true_and])
        have e : bitI kb i = sd := (by simpa using hq : sd = bitI kb i).symm
        rw [e] at hbit
        clear HR hq e
        have hsd : (sd != sd) = false := by simp
        have hsd2 : (sd == sd) = true := by simp
        go_wp2_with fail
        go_quiet ((go_at_call 53; exact Calls.quiet_of_same (hbit _)))
        go_wp2
        go_roundw
        case rel => exact ⟨k + 1, HK.out, by go_num, HR2, hid (HX3.out _)⟩
        case measure => have := HK.out; simp [intOf]; omega
      | false =>
        have HF : Hid (Z = false) := hid (by rw [← HR.out]; simp only [leadsZ, List.all_cons, hq, Bool.false_and])
        have e : bitI kb i = !sd := by cases sd <;> cases h : bitI kb i <;> simp_all
        rw [e] at hbit
        clear HR hq e
        have hsd2 : ((!sd) == sd) = false := by cases sd <;> rfl
        go_wp2_with fail
        go_quiet ((go_at_call 53; exact Calls.quiet_of_same (hbit _)))
        go_wp2
        go_ret3
        exact .inl ⟨HF.out, rfl, HX2.out _⟩
    · have hki : (p.st.length : Int) ≤ (k : Int) := by omega
      have HF : Hid (Z = true) := hid (by rw [← HR.out, List.drop_eq_nil_of_le (by omega)]; rfl)
      clear HR
      have k1 := run_string_shows (P := Tryd.prog) 24 5 9 Tryd.underlying24 Tryd.underlying5 Tryd.underlying9 HP.out.hk
      have k2 := run_string_shows (P := Tryd.prog) 24 5 9 Tryd.underlying24 Tryd.underlying5 Tryd.underlying9 HKY.out
      cases hno : p.no with
      | true =>
        have hb2 : b = true := by rw [← HBB.out, hno]; rfl
        have hv2 : val = [] := by rw [← HVL.out, hb2]; rfl
        subst hb2 hv2
        rw [hno] at d0
        go_wp2
        go_ret3
        exact .inr ⟨HF.out, _, rfl, World.ownsRow_nil _ _ _ _, HE.out⟩
      | false =>
        rw [hno] at d0
        have hv12 : p.v.length ≤ 1200 := by
          have h := hm
          unfold Prf.may at h
          rw [hno] at h
          simp at h
          exact h.2.1
        by_cases hkk : p.k = kb
        · have hb2 : b = false := by rw [← HBB.out, hno]; simp [hkk]
          have hv2 : val = p.v := by rw [← HVL.out, hb2]; rfl
          subst hb2 hv2
          have hek : str8 p.k = str8 kb := by rw [hkk]
          rw [hek] at k1
          clear hek hkk
          obtain ⟨i0, hi, hz0, hz1, hz2⟩ := info_parts Tryd.infoU8
          have hsv0 : Says wr (.slice va p.v.length vc) p.v := HP.out.hv.mono HBW.out
          have hsv := hsv0.new ((Below.refl _ wr).alloc (Nat.le_refl _) (.cells #[] 5))
          have HSV := hid hsv
          have e2 : (wr.alloc (.cells #[] 5)).cell? ⟨w.heap.size + 1, 2, none⟩ = some (.slice va p.v.length vc) := ((new_allocZ1 wr (.cells #[] 5)).cell (p := ⟨w.heap.size + 1, 2, none⟩) (World.block_lt_of_cell? _ _ d2)).trans d2
          clear hsv hsv0
          go_wp2_with (first
            | (at_builtin; refine wpList_append_shows _ rfl (.tmp 60) (.tmp 63) 24 rfl wr.heap.size 5 i0 Tryd.underlying24 hi hz0 hz1 hz2 _ 0 [] rfl (World.ownsRow_made wr #[] 0 (Nat.le_refl _) (by unfold maxLen; omega) rfl) _ _ p.v rfl HSV.out ?d1 ?d2 ?_))
          case d1 => simp; omega
          case d2 => simp
          intro vA wA oA gA _
          obtain ⟨aA, cA, rfl⟩ := row_form oA
          have HO := hid oA
          have HBX : Hid (Below wr.heap.size wr wA) := hid (((Below.refl _ _).alloc (Nat.le_refl _) _).grown gA (by simp) (fun q hq => by have hq' : some wr.heap.size = some q := hq; cases hq'; exact Nat.le_refl _))
          clear oA gA
          go_wp2
          go_ret3
          exact .inr ⟨HF.out, _, rfl, owns_lower HO.out (fun g hg => by have h1 := (HO.out.lt g hg).1; have h2 := HE.out.size; omega), HE.out.trans (HBX.out.mono HE.out.size)⟩
        · have hb2 : b = true := by rw [← HBB.out, hno]; simp [hkk]
          have hv2 : val = [] := by rw [← HVL.out, hb2]; rfl
          subst hb2 hv2
          have hne2 : ((str8 p.k).toList == (str8 kb).toList) = false := by rw [str_beqY]; exact decide_eq_false hkk
          go_wp2
          go_ret3
          exact .inr ⟨HF.out, _, rfl, World.ownsRow_nil _ _ _ _, HE.out⟩

theorem ycheck_any (B : Nat) (p : Prf) (kv vv sv key : Value) (rt kb : List UInt8) (w : World) (hB : B ≤ w.heap.size) (hp : PAt B w p kv vv sv) (hk : Shows B w key kb) (hr : rt.length = 32) (hkl : kb.length ≤ 140737488355328) :
    Calls Tryd.prog 17 #[.agg (sumV rt), key, .agg #[.bool p.no, kv, vv, sv]] w fun e w' => ∃ v', e = .returned (.tuple #[v', .bool (p.tells rt kb).2.1, .int .i64 (p.tells rt kb).1]) ∧ Copy w.heap.size w' v' (p.tells rt kb).2.2 ∧ Below w.heap.size w w' := by
  have bad : (p.may && decide (p.root = rt) && leadsZ kb p.st) = false → ∀ e w', e = Ending.returned (.tuple #[.slice none 0 0, .bool false, .int .i64 5]) ∧ Below w.heap.size w w' → ∃ v', e = .returned (.tuple #[v', .bool (p.tells rt kb).2.1, .int .i64 (p.tells rt kb).1]) ∧ Copy w.heap.size w' v' (p.tells rt kb).2.2 ∧ Below w.heap.size w w' := fun h e w' ⟨h1, h2⟩ => by
    have : p.tells rt kb = (5, false, []) := by unfold Prf.tells; rw [h]; rfl
    rw [this]
    exact ⟨_, h1, World.ownsRow_nil _ _ _ _, h2⟩
  cases hm : p.may with
  | false => exact (ycheck_no B p kv vv sv key rt kb w hB hp hk hr hm).mono (bad (by rw [hm]; rfl))
  | true =>
    by_cases hne : p.root = rt
    · refine (ycheck_go B p kv vv sv key rt kb w hB hp hk hr hkl hm hne _ _ rfl rfl _ rfl).mono fun e w' h => ?_
      rcases h with ⟨hz, h1, h2⟩ | ⟨hz, v', h1, h2, h3⟩
      · exact bad (by rw [hz]; simp) e w' ⟨h1, h2⟩
      · have : p.tells rt kb = (0, !(p.no || !decide (p.k = kb)), if (p.no || !decide (p.k = kb)) then [] else p.v) := by
          unfold Prf.tells
          rw [hm, hz, decide_eq_true hne]
          cases (p.no || !decide (p.k = kb)) <;> rfl
        rw [this]
        exact ⟨v', h1, h2, h3⟩
    · exact (ycheck_ne B p kv vv sv key rt kb w hB hp hk hr hm hne).mono (bad (by rw [decide_eq_false hne]; simp))
end Go.Proofs.YtmafaioohiaenaaDoor
