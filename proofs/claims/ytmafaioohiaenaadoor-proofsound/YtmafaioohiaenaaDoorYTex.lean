/- Contract of the document's own Texts of a proof. -/
import Derived.Test.YtmafaioohiaenaaDoorYTexA
namespace Go.Proofs.YtmafaioohiaenaaDoor
open Go.RowKit Go.Shelf
set_option linter.unusedVariables false
set_option linter.unusedSimpArgs false
set_option maxRecDepth 20000

/-- What the loop has in hand. -/
structure YI (b0 : Nat) (w0 : World) (t0 : List UInt8) (dn : List Zst) (W : World) (tv rv : Value) (vs : List Value) : Prop where
  row : W.ownsRow b0 24 1 rv (upZ t0 dn).length vs
  rows : RowsOwn W b0 vs (upZ t0 dn)
  cur : vs.getLast? = some tv
  below : Below b0 w0 W

theorem YI.new {b0 : Nat} {w0 W W' : World} {t0 : List UInt8} {dn : List Zst} {tv rv : Value} {vs : List Value} (h : YI b0 w0 t0 dn W tv rv vs) (hb : Below W.heap.size W W') (hz : b0 ≤ W.heap.size) : YI b0 w0 t0 dn W' tv rv vs :=
  ⟨(Spares.of_new (S := fun _ => False) hb).row h.row (fun _ _ => id), ⟨h.rows.len, fun j v r hv hr => ⟨(Spares.of_new (S := fun _ => False) hb).row (h.rows.own j v r hv hr).1 (fun _ _ => id), (h.rows.own j v r hv hr).2⟩, h.rows.apart⟩, h.cur, h.below.trans (hb.mono hz)⟩

theorem y_step {b0 g cap : Nat} {w0 W W1 W3 : World} {t0 : List UInt8} {dn : List Zst} {s : Zst} {tv rv v' : Value} {vs : List Value} {tx : List UInt8} (hI : YI b0 w0 t0 dn W tv rv vs) (hz : b0 ≤ W.heap.size)
    (htx : stepZ s (sha (topU t0 dn)) = tx) (h1 : Below W.heap.size W W1) (ho : W1.ownsRow W.heap.size 5 1 v' tx.length (tx.map by8)) (hpos : 0 < tx.length)
    (hg : W1.grownBy W3 rv.ownBlock) (hown : W3.ownsRow b0 24 1 (.slice (some ⟨g, 0, none⟩) ((upZ t0 dn).length + 1) cap) ((upZ t0 dn).length + 1) (vs ++ [v'])) :
    YI b0 w0 t0 (dn ++ [s]) W3 v' (.slice (some ⟨g, 0, none⟩) ((upZ t0 dn).length + 1) cap) (vs ++ [v']) := by
  have hlow : ∀ i, rv.ownBlock = some i → b0 ≤ i ∧ i < W.heap.size := fun i hi => hI.row.lt i hi
  have sp : Spares (fun i => rv.ownBlock = some i) W W3 := (Spares.of_new (S := fun _ => False) h1 |>.mono (fun i h => h.elim)).andThen (Spares.of_grown (S := fun i => rv.ownBlock = some i) hg (fun k e => e)) (fun i hi => .inl hi)
  have s3 : Spares (fun i => rv.ownBlock = some i) W1 W3 := Spares.of_grown (S := fun i => rv.ownBlock = some i) hg (fun k e => e)
  have hlen : upZ t0 (dn ++ [s]) = upZ t0 dn ++ [tx] := by rw [upZ_snoc, htx]
  have hro : RowsOwn W3 b0 vs (upZ t0 dn) := ⟨hI.rows.len, fun j v r hv hr => ⟨sp.row (hI.rows.own j v r hv hr).1 (fun i hi hs => by
      obtain ⟨cs, hc⟩ := row_type (hI.rows.own j v r hv hr).1 hi
      obtain ⟨cs', hc'⟩ := row_type hI.row hs
      rw [hc'] at hc; cases hc), (hI.rows.own j v r hv hr).2⟩, hI.rows.apart⟩
  have hv3 : W3.ownsRow W.heap.size 5 1 v' tx.length (tx.map by8) := s3.row ho (fun i hi hs => by have h2 := (ho.lt i hi).1; have h3 := (hlow i hs).2; omega)
  have hvn : v' ≠ .slice none 0 0 := fun e => by
    rcases ho.2 with ⟨_, h0⟩ | ⟨g', cap', cur, h0, _⟩
    · omega
    · rw [e] at h0; cases h0
  refine ⟨by rw [hlen, List.length_append]; exact hown, ?_, by simp, hI.below.trans (sp.below (fun i hi => (hlow i hi).1) hz)⟩
  rw [hlen]
  refine hro.snoc (C := W.heap.size) hz hv3 (own_shape hv3 hvn) (fun u hu g hg => ?_)
  obtain ⟨j, hj⟩ := List.getElem?_of_mem hu
  obtain ⟨r, hr⟩ : ∃ r, (upZ t0 dn)[j]? = some r := ⟨_, List.getElem?_eq_getElem (by rw [← hI.rows.len]; exact (List.getElem?_eq_some_iff.1 hj).1)⟩
  exact ((hI.rows.own j u r hj hr).1.lt g hg).2

theorem drop_rev (L : List Zst) (m : Nat) (h : m < L.length) : (L.drop m).reverse = (L.drop (m + 1)).reverse ++ [L[m]] := by
  rw [List.drop_eq_getElem_cons h, List.reverse_cons]

set_option maxHeartbeats 8000000 in
theorem ytexts_any (B : Nat) (p : Prf) (kv vv sv : Value) (w : World) (hB : B ≤ w.heap.size) (hp : PAt B w p kv vv sv) :
    Calls Tryd.prog 10 #[.agg #[.bool p.no, kv, vv, sv]] w fun e w' => ∃ rv, e = .returned rv ∧ RowsAt w' w.heap.size rv p.texts ∧ Below w.heap.size w w' := by
  obtain ⟨ka, kc, rfl, hk1, hk2, _⟩ := id hp.hk
  obtain ⟨va, vc, rfl, hv1, hv2, _⟩ := id hp.hv
  obtain ⟨sa, sc, rfl, hs1, hs2⟩ := hp.hs.form
  unfold maxLen at hs2
  have hbn := new_allocZ1 w (.cells #[.bool p.no, .slice ka p.k.length kc, .slice va p.v.length vc, .slice sa p.st.length sc] 29)
  have hnew := World.alloc_heap_new w (.cells #[.bool p.no, .slice ka p.k.length kc, .slice va p.v.length vc, .slice sa p.st.length sc] 29)
  have hsn : (w.alloc (.cells #[.bool p.no, .slice ka p.k.length kc, .slice va p.v.length vc, .slice sa p.st.length sc] 29)).heap.size = w.heap.size + 1 := World.size_alloc _ _
  have HM := ymay_any B p _ _ _ _ (by omega) (hp.below (hbn.mono hB))
  have HP := hid hp
  clear hp
  cases hm : p.may with
  | false =>
    rw [hm] at HM
    have HTX : Hid (p.texts = []) := hid (by simp [Prf.texts, hm])
    generalize p.texts = TX at *
    go_enter Tryd.func10, Tryd.ntmps10
    go_wp2_with fail
    refine HM.mono ?_
    clear HM
    rintro e w1 ⟨rfl, hb1⟩
    have HB := hid (hbn.trans (hb1.mono hbn.size))
    clear hbn hnew hsn hb1
    go_wp2
    go_ret
    exact ⟨_, rfl, by rw [HTX.out]; exact ⟨[], World.ownsRow_nil _ _ _ _, RowsOwn.nil _ _⟩, HB.out⟩
  | true =>
    rw [hm] at HM
    have HTX : Hid (p.texts = upZ p.endZ p.st.reverse) := hid (by simp [Prf.texts, hm])
    have hml := may_length p hm
    have HEP := hid (endZ_pos p hm)
    have HEL := hid (endZ_le p)
    generalize p.texts = TX at *
    cases hno : p.no with
    | true =>
      have hst : p.st = [] := by
        unfold Prf.may at hm
        rw [hno, if_pos rfl] at hm
        simp at hm
        exact hm.2.2
      have hez : p.endZ = noneZ := by simp [Prf.endZ, hno]
      rw [hst, hez] at HTX
      rw [hno] at HM hbn hnew hsn
      clear hst hm
      go_enter Tryd.func10, Tryd.ntmps10
      go_wp2_with fail
      refine HM.mono ?_
      clear HM
      rintro e w1 ⟨rfl, hb1⟩
      obtain ⟨c0, c1, c2, c3⟩ := proof_cells ((hb1.block _ (by omega)).trans hnew)
      have HB := hid (hbn.trans (hb1.mono hbn.size))
      have HNN := xnone_any w1
      rw [← hez] at HNN HTX
      generalize p.endZ = tz at *
      clear hbn hnew hsn hb1 hez
      go_wp2_with fail
      refine HNN.mono ?_
      clear HNN
      rintro e w2 ⟨v2, rfl, ho2, hb2⟩
      obtain ⟨a2, c2', rfl⟩ := row_form ho2
      have HB2 := hid (HB.out.trans (hb2.mono HB.out.size))
      have HA := hid (World.alloc_heap_new w2 (.cells #[.slice a2 tz.length c2'] 24))
      have hbA := new_allocZ1 w2 (.cells #[.slice a2 tz.length c2'] 24)
      have HBE := hid (HB2.out.trans (hbA.mono HB2.out.size))
      have HO2 : Hid ((w2.alloc (.cells #[.slice a2 tz.length c2'] 24)).ownsRow w.heap.size 5 1 (.slice a2 tz.length c2') tz.length (tz.map by8)) := hid (owns_lower ((Spares.of_new (S := fun _ => False) hbA).row ho2 (fun _ _ => id)) (fun g hg => by have := (ho2.lt g hg).1; have := HB.out.size; omega))
      have hzw := hid HB2.out.size
      clear hb2 hbA ho2
      go_wp2
      go_ret
      refine ⟨_, rfl, ?_, HBE.out⟩
      rw [HTX.out]
      refine ⟨[.slice a2 tz.length c2'], ⟨rfl, .inr ⟨w2.heap.size, 1, #[.slice a2 tz.length c2'], rfl, hzw.out, HA.out, Nat.le_refl _, by decide, rfl, rfl⟩⟩, ?_⟩
      refine (RowsOwn.nil _ w.heap.size).snoc (C := w.heap.size) (Nat.le_refl _) HO2.out (own_shape HO2.out (fun e => ?_)) (fun u hu => (by cases hu))
      have := HEP.out
      simp only [Value.slice.injEq] at e
      omega
    | false =>
      have hez : p.endZ = leafZ p.k p.v := by simp [Prf.endZ, hno]
      rw [hno] at HM hbn hnew hsn
      have hokA := HP.out.hs.ok
      clear hm
      go_enter Tryd.func10, Tryd.ntmps10
      go_wp2_with fail
      refine HM.mono ?_
      clear HM
      rintro e w1 ⟨rfl, hb1⟩
      rw [hsn] at hb1
      obtain ⟨c0, c1, c2, c3⟩ := proof_cells ((hb1.block _ (by omega)).trans hnew)
      have HLF := xleaf_any B _ _ p.k p.v w1 (by have := hb1.size; omega) (HP.out.hk.below ((hbn.trans (hb1.mono (by omega))).mono hB)) (HP.out.hv.below ((hbn.trans (hb1.mono (by omega))).mono hB))
      rw [← hez] at HLF
      have HPW : Hid (∀ W, Below (w.heap.size + 1) (w.alloc (.cells #[.bool false, .slice ka p.k.length kc, .slice va p.v.length vc, .slice sa p.st.length sc] 29)) W → Below w.heap.size w W) := hid (fun W h => hbn.trans (h.mono (by omega)))
      have HNW := hid hnew
      obtain ⟨w0, hw0⟩ : ∃ w0, w.alloc (.cells #[.bool false, .slice ka p.k.length kc, .slice va p.v.length vc, .slice sa p.st.length sc] 29) = w0 := ⟨_, rfl⟩
      rw [hw0] at HPW HNW hb1 hsn
      obtain ⟨tz, htz⟩ : ∃ tz, p.endZ = tz := ⟨_, rfl⟩
      rw [htz] at HLF HTX HEP HEL
      clear hbn hnew hez htz hw0
      go_wp2_with (first
        | (go_at_call 36; refine HLF.mono ?_; clear HLF; rintro e w2 ⟨v2, rfl, ho2, hb2⟩
           obtain ⟨a2, c2', rfl⟩ := row_form ho2
           have hb02 : Below (w.heap.size + 1) w0 w2 := hb1.trans (hb2.mono (by have := hb1.size; omega))
           have hz1 : w.heap.size + 1 ≤ w1.heap.size := by have := hb1.size; omega
           have hz2 := hb2.size
           have hbA := new_allocZ1 w2 (.cells #[.slice a2 tz.length c2'] 24)
           have hbA0 : Below (w.heap.size + 1) w0 (w2.alloc (.cells #[.slice a2 tz.length c2'] 24)) := hb02.trans (hbA.mono (by omega))
           have HO2 : Hid ((w2.alloc (.cells #[.slice a2 tz.length c2'] 24)).ownsRow (w.heap.size + 1) 5 1 (.slice a2 tz.length c2') tz.length (tz.map by8)) := hid (owns_lower ((Spares.of_new (S := fun _ => False) hbA).row ho2 (fun _ _ => id)) (fun g hg => by have := (ho2.lt g hg).1; omega))
           have hnA := World.alloc_heap_new w2 (.cells #[.slice a2 tz.length c2'] 24)
           have HYI0 : Hid (YI (w.heap.size + 1) w0 tz [] (w2.alloc (.cells #[.slice a2 tz.length c2'] 24)) (.slice a2 tz.length c2') (.slice (some ⟨w2.heap.size, 0, none⟩) 1 1) [.slice a2 tz.length c2']) := hid ⟨⟨rfl, .inr ⟨w2.heap.size, 1, #[.slice a2 tz.length c2'], rfl, by omega, hnA, Nat.le_refl _, by decide, rfl, rfl⟩⟩, (RowsOwn.nil _ (w.heap.size + 1)).snoc (C := w.heap.size + 1) (Nat.le_refl _) HO2.out (own_shape HO2.out (fun e => by have := HEP.out; simp only [Value.slice.injEq] at e; omega)) (fun u hu => (by cases hu)), rfl, hbA0⟩
           have g3 : (w2.alloc (.cells #[.slice a2 tz.length c2'] 24)).cell? ⟨w.heap.size, 3, none⟩ = some (.slice sa p.st.length sc) := (proof_cells ((hbA0.block _ (by omega)).trans HNW.out)).2.2.2
           clear hb2 ho2 hbA hnA hb02 HO2 c0 c1 c2 c3 hbA0))
      have HLL := hid hokA
      have hn81 : p.st.length ≤ 1081 := hml
      go_loopw [4, 5, 6] (fun t r i wr => ∃ (k : Nat) (ta : Option Addr) (tl tc : Nat) (ra : Option Addr) (len rc : Nat) (vs : List Value), k ≤ p.st.length ∧ t = .slice ta tl tc ∧ r = .slice ra len rc ∧ i = .int .i64 ((k : Int) - 1) ∧ Hid (YI (w.heap.size + 1) w0 tz ((p.st.drop k).reverse) wr (.slice ta tl tc) (.slice ra len rc) vs)) (fun _ _ i _ => (intOf i + 1).toNat)
      case atStart => exact ⟨p.st.length, _, _, _, _, _, _, _, Nat.le_refl _, rfl, rfl, rfl, hid (by rw [List.drop_eq_nil_of_le (Nat.le_refl _)]; exact HYI0.out)⟩
      case round =>
        obtain ⟨k, ta, tl, tc, ra, len, rc, vs, hk, rfl, rfl, rfl, HYI⟩ := hrel
        clear HYI0 g3
        have hbr : w.heap.size + 1 ≤ wr.heap.size := by have := HYI.out.below.size; omega
        obtain ⟨_, _, _, c3⟩ := proof_cells ((HYI.out.below.block _ (by omega)).trans HNW.out)
        cases k with
        | zero =>
          have HE := hid (HPW.out _ HYI.out.below)
          have HRR : Hid (RowsAt wr w.heap.size (.slice ra len rc) TX) := hid (by
            rw [HTX.out]
            have h := HYI.out
            rw [List.drop_zero] at h
            exact ⟨vs, owns_lower h.row (fun g hg => by have := (h.row.lt g hg).1; omega), h.rows.len, fun j v r hv hr => ⟨owns_lower (h.rows.own j v r hv hr).1 (fun g hg => by have := ((h.rows.own j v r hv hr).1.lt g hg).1; omega), (h.rows.own j v r hv hr).2⟩, h.rows.apart⟩)
          go_wp2
          go_ret
          exact ⟨_, rfl, HRR.out, HE.out⟩
        | succ m =>
        have hm1 : ((m + 1 : Nat) : Int) - 1 = (m : Int) := by omega
        rw [hm1]
        have hml' : m < p.st.length := by omega
        have hki : (m : Int) < (p.st.length : Int) := by omega
        have hk0 : (0 : Int) ≤ (m : Int) := by omega
        have HMl := hid hml'
        have HMn : Hid (m ≤ p.st.length) := hid (by omega)
        have hs := List.getElem?_eq_getElem hml'
        -- the text in hand
        obtain ⟨cur, hcur⟩ : ∃ cur, topU tz (p.st.drop (m + 1)).reverse = cur := ⟨_, rfl⟩
        have hcl : cur.length ≤ 1099511627776 := by
          rw [← hcur]
          rcases List.eq_nil_or_concat (p.st.drop (m + 1)).reverse with e | ⟨r, q, e⟩
          · rw [e]; exact HEL.out
          · rw [e, List.concat_eq_append, topU_snoc]; exact stepZ_le _ _
        have hcs : Says wr (.slice ta tl tc) cur := by
          have h1 := HYI.out.cur
          have h2 := upZ_last (p.st.drop (m + 1)).reverse tz
          rw [hcur] at h2
          rw [List.getLast?_eq_getElem?] at h1 h2
          rw [HYI.out.rows.len] at h1
          exact (shows_of_owns (HYI.out.rows.own _ _ _ h1 h2).1).2
        obtain rfl : tl = cur.length := by
          obtain ⟨_, _, e, _⟩ := hcs
          simp only [Value.slice.injEq] at e
          exact e.2.1
        have hlen : (upZ tz (p.st.drop (m + 1)).reverse).length = len := by
          obtain ⟨_, _, e⟩ := row_form HYI.out.row
          simp only [Value.slice.injEq] at e
          exact e.2.1.symm
        have hlen2 : len ≤ 1082 := by
          rw [← hlen, upZ_length, List.length_reverse, List.length_drop]; omega
        have HLN := hid hlen
        obtain ⟨s, hs0⟩ : ∃ s, p.st[m] = s := ⟨_, rfl⟩
        replace hs : p.st[m]? = some s := by rw [hs]; exact congrArg some hs0
        have HSM : Hid (∀ h, p.st[m]'h = s) := hid (fun _ => hs0)
        clear hs0
        obtain ⟨b, off, rfl, hbB, hok, hld⟩ := HP.out.hs.at m s hs
        have hl := hld wr ((HPW.out _ HYI.out.below).mono hB)
        have HI := hid (isStep hok)
        obtain ⟨x1, hbx, x3⟩ := box_step wr s hok (.cells zeroStep 66) rfl
        obtain ⟨hx0, hx1⟩ := boxed_cells x1
        have HOO : Hid (∀ W : World, W.heap[wr.heap.size]? = some (.cells (zc s).toArray 66 (0, 0)) → (loadVar 23 ⟨wr.heap.size, 2, none⟩).run Tryd.prog W = .ok (.agg (sumV s.2.2)) W) := hid (fun W h => load_other h hok)
        have HCC : Hid (∀ W : World, W.heap[wr.heap.size]? = some (.cells (zc s).toArray 66 (0, 0)) → W.cell? ⟨wr.heap.size, 0, none⟩ = some (.int .i64 s.1) ∧ W.cell? ⟨wr.heap.size, 1, none⟩ = some (.bool s.2.1)) := hid (fun W h => boxed_cells h)
        have HRAW : Hid (∀ W, Below wr.heap.size wr W → Calls Tryd.prog 11 #[.slice ta cur.length tc] W fun e w' => e = .returned (.agg (sumV (sha cur))) ∧ Below W.heap.size W w') := hid (fun W hW => refRaw_any W.heap.size _ cur W (Nat.le_refl _) (hcs.new hW) hcl)
        have HD := hid (isSum (sha cur) (sha_length _))
        have HDD : Hid (∀ (W : World) (g : Nat), W.heap[g]? = some (.cells (sumV (sha cur)) 23 (0, 0)) → (loadVar 23 ⟨g, 0, none⟩).run Tryd.prog W = .ok (.agg (sumV (sha cur))) W) := hid (fun W g h => load_sumZ h (sha_length _))
        obtain ⟨tx, htx⟩ : ∃ tx, stepZ s (sha cur) = tx := ⟨_, rfl⟩
        have HTXX : Hid (stepZ s (sha (topU tz (p.st.drop (m + 1)).reverse)) = tx) := hid (by rw [hcur]; exact htx)
        have HPOS : Hid (0 < tx.length) := hid (by rw [← htx]; exact stepZ_pos s _ hok (sha_length _))
        have HFK0 := fun (W : World) => xfork_any s.1 s.2.2 (sha cur) W hok.lo hok.hi hok.len (sha_length _)
        have HFK1 := fun (W : World) => xfork_any s.1 (sha cur) s.2.2 W hok.lo hok.hi (sha_length _) hok.len
        clear x3 hld hs hcur hlen hcs hcl hok
        obtain ⟨i, sd, ot⟩ := s
        simp only at *
        generalize (zc (i, sd, ot)).toArray = A at *
        generalize sumV ot = O at *
        generalize sumV (sha cur) = D at *
        cases sd with
        | true =>
          simp only [stepZ, if_true] at htx
          rw [htx] at HFK0
          have HFK := hid HFK0
          clear HFK0 HFK1 htx
          go_wp2_with (first
            | (refine wpList_load_z rfl 66 (.tmp 33) rfl ⟨b, off + m * 34, none⟩ rfl A hl ?_)
            | (refine wpList_store_row rfl 66 (.tmp 7) (.tmp 34) rfl wr.heap.size A rfl rfl 66 zeroStep (World.alloc_heap_new wr _) HI.out.info HI.out.size HI.out.one ?_
               generalize hwa : World.setRow _ wr.heap.size A = wa
               replace hx0 : wa.cell? ⟨wr.heap.size, 0, none⟩ = some (.int .i64 i) := by rw [← hwa]; exact hx0
               replace hx1 : wa.cell? ⟨wr.heap.size, 1, none⟩ = some (.bool true) := by rw [← hwa]; exact hx1
               have hba : Below wr.heap.size wr wa := by rw [← hwa]; exact hbx
               have NA : Hid (wa.heap[wr.heap.size]? = some (.cells A 66 (0, 0))) := hid (by rw [← hwa]; exact x1)
               have HRW := HRAW.out wa hba
               clear hwa hbx x1)
            | (go_at_call 11; refine HRW.mono ?_; clear HRW; rintro e wb ⟨rfl, hb2⟩
               have hbb : Below wr.heap.size wr wb := hba.trans (hb2.mono hba.size)
               have hbz := hba.size
               have NB := hid ((hb2.block _ (block_lt NA.out)).trans NA.out)
               clear hb2 hba)
            | (refine wpList_store_row rfl 23 (.tmp 8) (.tmp 36) rfl wb.heap.size D rfl rfl 23 zero32 (World.alloc_heap_new wb _) HD.out.info HD.out.size HD.out.one ?_
               generalize hwc : World.setRow _ wb.heap.size D = wc
               have hbc0 : Below wb.heap.size wb wc := by rw [← hwc]; exact below_setRow (new_allocZ1 wb (.cells zero32 23)) (Nat.le_refl _) _
               have ND : Hid (wc.heap[wb.heap.size]? = some (.cells D 23 (0, 0))) := hid (by rw [← hwc]; exact setRow_heap _ _ _ _ _ _ (World.alloc_heap_new wb _))
               have hbc : Below wr.heap.size wr wc := hbb.trans (hbc0.mono hbb.size)
               have NC := hid ((hbc0.block _ (block_lt NB.out)).trans NB.out)
               have NO := hid (HOO.out wc NC.out)
               obtain ⟨y0, y1⟩ := HCC.out wc NC.out
               have HFT := HFK.out wc
               clear hwc hbc0 hbb)
            | (refine wpList_load_z rfl 23 (.tmp 41) rfl ⟨wr.heap.size, 2, none⟩ rfl O NO.out ?_)
            | (refine wpList_load_z rfl 23 (.tmp 8) rfl ⟨wb.heap.size, 0, none⟩ rfl D (HDD.out wc _ ND.out) ?_)
            | (go_at_call 37; refine HFT.mono ?_; clear HFT; rintro e wd ⟨vd, rfl, hod, hbd⟩
               obtain ⟨na, nc, rfl⟩ := row_form hod
               have hbw : Below wr.heap.size wr wd := hbc.trans (hbd.mono hbc.size)
               have hcz := hbc.size
               have hbA := new_allocZ1 wd (.cells #[.slice na tx.length nc] 24)
               have hbW : Below wr.heap.size wr (wd.alloc (.cells #[.slice na tx.length nc] 24)) := hbw.trans (hbA.mono hbw.size)
               have hodA : (wd.alloc (.cells #[.slice na tx.length nc] 24)).ownsRow wr.heap.size 5 1 (.slice na tx.length nc) tx.length (tx.map by8) := owns_lower ((Spares.of_new (S := fun _ => False) hbA).row hod (fun _ _ => id)) (fun g hg => by have := (hod.lt g hg).1; omega)
               have hrowA := ((HYI.out.new hbW hbr).row)
               have hnA := World.alloc_heap_new wd (.cells #[.slice na tx.length nc] 24)
               have hnews : ∀ (j : Nat) (u : Value), [Value.slice na tx.length nc][j]? = some u → (wd.alloc (.cells #[.slice na tx.length nc] 24)).cell? ((⟨wd.heap.size, 0, none⟩ : Addr).add j) = some u := by have := World.news_of_block hnA; simpa using this
               have hzW : w.heap.size + 1 ≤ (wd.alloc (.cells #[.slice na tx.length nc] 24)).heap.size := Nat.le_trans hbr hbW.size
               rw [HLN.out] at hrowA
               have HST : Hid (∀ g cap W3, (wd.alloc (.cells #[.slice na tx.length nc] 24)).grownBy W3 (Value.ownBlock (.slice ra len rc)) → W3.ownsRow (w.heap.size + 1) 24 1 (.slice (some ⟨g, 0, none⟩) (len + 1) cap) (len + 1) (vs ++ [.slice na tx.length nc]) → YI (w.heap.size + 1) w0 tz ((p.st.drop m).reverse) W3 (.slice na tx.length nc) (.slice (some ⟨g, 0, none⟩) (len + 1) cap) (vs ++ [.slice na tx.length nc])) := hid (fun g cap W3 h1 h2 => by
                 rw [drop_rev p.st m HMl.out, HSM.out HMl.out]
                 have := y_step (g := g) (cap := cap) (s := (i, true, ot)) HYI.out hbr HTXX.out hbW hodA HPOS.out h1 (by rw [HLN.out]; exact h2)
                 rw [HLN.out] at this
                 exact this)
               obtain ⟨i0, hi, hz0, hzz1, hzz2⟩ := info_parts Tryd.infoBytes
               clear hod hbd hbw hbA hodA hnA hbc)
            | (at_builtin; refine wpList_append_lies _ rfl (.tmp 51) (.tmp 53) 32 rfl (w.heap.size + 1) 24 i0 _ 1 24 Tryd.underlying32 hi hz0 hzz1 hzz2 rfl (by decide) (.slice ra len rc) len vs rfl hrowA ⟨wd.heap.size, 0, none⟩ 1 1 [.slice na tx.length nc] rfl rfl hnews (by intro u hu; simp at hu; subst hu; rfl) (by decide) (by unfold maxLen; omega) (by omega) hzW _ rfl ?_
               intro g cap w8 hown8 hgrow8 hat8 hgl8
               have HNX := hid (HST.out g cap w8 hgrow8 hown8)
               clear hown8 hgrow8 hat8 hrowA hnews HST))
          go_roundw
          case rel => exact ⟨m, _, _, _, _, _, _, _, HMn.out, rfl, rfl, by go_num, HNX⟩
          case measure => simp [intOf] <;> omega
        | false =>
          simp only [stepZ, Bool.false_eq_true, if_false] at htx
          rw [htx] at HFK1
          have HFK := hid HFK1
          clear HFK0 HFK1 htx
          go_wp2_with (first
            | (refine wpList_load_z rfl 66 (.tmp 33) rfl ⟨b, off + m * 34, none⟩ rfl A hl ?_)
            | (refine wpList_store_row rfl 66 (.tmp 7) (.tmp 34) rfl wr.heap.size A rfl rfl 66 zeroStep (World.alloc_heap_new wr _) HI.out.info HI.out.size HI.out.one ?_
               generalize hwa : World.setRow _ wr.heap.size A = wa
               replace hx0 : wa.cell? ⟨wr.heap.size, 0, none⟩ = some (.int .i64 i) := by rw [← hwa]; exact hx0
               replace hx1 : wa.cell? ⟨wr.heap.size, 1, none⟩ = some (.bool false) := by rw [← hwa]; exact hx1
               have hba : Below wr.heap.size wr wa := by rw [← hwa]; exact hbx
               have NA : Hid (wa.heap[wr.heap.size]? = some (.cells A 66 (0, 0))) := hid (by rw [← hwa]; exact x1)
               have HRW := HRAW.out wa hba
               clear hwa hbx x1)
            | (go_at_call 11; refine HRW.mono ?_; clear HRW; rintro e wb ⟨rfl, hb2⟩
               have hbb : Below wr.heap.size wr wb := hba.trans (hb2.mono hba.size)
               have hbz := hba.size
               have NB := hid ((hb2.block _ (block_lt NA.out)).trans NA.out)
               clear hb2 hba)
            | (refine wpList_store_row rfl 23 (.tmp 8) (.tmp 36) rfl wb.heap.size D rfl rfl 23 zero32 (World.alloc_heap_new wb _) HD.out.info HD.out.size HD.out.one ?_
               generalize hwc : World.setRow _ wb.heap.size D = wc
               have hbc0 : Below wb.heap.size wb wc := by rw [← hwc]; exact below_setRow (new_allocZ1 wb (.cells zero32 23)) (Nat.le_refl _) _
               have ND : Hid (wc.heap[wb.heap.size]? = some (.cells D 23 (0, 0))) := hid (by rw [← hwc]; exact setRow_heap _ _ _ _ _ _ (World.alloc_heap_new wb _))
               have hbc : Below wr.heap.size wr wc := hbb.trans (hbc0.mono hbb.size)
               have NC := hid ((hbc0.block _ (block_lt NB.out)).trans NB.out)
               have NO := hid (HOO.out wc NC.out)
               obtain ⟨y0, y1⟩ := HCC.out wc NC.out
               have HFT := HFK.out wc
               clear hwc hbc0 hbb)
            | (refine wpList_load_z rfl 23 (.tmp 48) rfl ⟨wr.heap.size, 2, none⟩ rfl O NO.out ?_)
            | (refine wpList_load_z rfl 23 (.tmp 8) rfl ⟨wb.heap.size, 0, none⟩ rfl D (HDD.out wc _ ND.out) ?_)
            | (go_at_call 37; refine HFT.mono ?_; clear HFT; rintro e wd ⟨vd, rfl, hod, hbd⟩
               obtain ⟨na, nc, rfl⟩ := row_form hod
               have hbw : Below wr.heap.size wr wd := hbc.trans (hbd.mono hbc.size)
               have hcz := hbc.size
               have hbA := new_allocZ1 wd (.cells #[.slice na tx.length nc] 24)
               have hbW : Below wr.heap.size wr (wd.alloc (.cells #[.slice na tx.length nc] 24)) := hbw.trans (hbA.mono hbw.size)
               have hodA : (wd.alloc (.cells #[.slice na tx.length nc] 24)).ownsRow wr.heap.size 5 1 (.slice na tx.length nc) tx.length (tx.map by8) := owns_lower ((Spares.of_new (S := fun _ => False) hbA).row hod (fun _ _ => id)) (fun g hg => by have := (hod.lt g hg).1; omega)
               have hrowA := ((HYI.out.new hbW hbr).row)
               have hnA := World.alloc_heap_new wd (.cells #[.slice na tx.length nc] 24)
               have hnews : ∀ (j : Nat) (u : Value), [Value.slice na tx.length nc][j]? = some u → (wd.alloc (.cells #[.slice na tx.length nc] 24)).cell? ((⟨wd.heap.size, 0, none⟩ : Addr).add j) = some u := by have := World.news_of_block hnA; simpa using this
               have hzW : w.heap.size + 1 ≤ (wd.alloc (.cells #[.slice na tx.length nc] 24)).heap.size := Nat.le_trans hbr hbW.size
               rw [HLN.out] at hrowA
               have HST : Hid (∀ g cap W3, (wd.alloc (.cells #[.slice na tx.length nc] 24)).grownBy W3 (Value.ownBlock (.slice ra len rc)) → W3.ownsRow (w.heap.size + 1) 24 1 (.slice (some ⟨g, 0, none⟩) (len + 1) cap) (len + 1) (vs ++ [.slice na tx.length nc]) → YI (w.heap.size + 1) w0 tz ((p.st.drop m).reverse) W3 (.slice na tx.length nc) (.slice (some ⟨g, 0, none⟩) (len + 1) cap) (vs ++ [.slice na tx.length nc])) := hid (fun g cap W3 h1 h2 => by
                 rw [drop_rev p.st m HMl.out, HSM.out HMl.out]
                 have := y_step (g := g) (cap := cap) (s := (i, false, ot)) HYI.out hbr HTXX.out hbW hodA HPOS.out h1 (by rw [HLN.out]; exact h2)
                 rw [HLN.out] at this
                 exact this)
               obtain ⟨i0, hi, hz0, hzz1, hzz2⟩ := info_parts Tryd.infoBytes
               clear hod hbd hbw hbA hodA hnA hbc)
            | (at_builtin; refine wpList_append_lies _ rfl (.tmp 51) (.tmp 53) 32 rfl (w.heap.size + 1) 24 i0 _ 1 24 Tryd.underlying32 hi hz0 hzz1 hzz2 rfl (by decide) (.slice ra len rc) len vs rfl hrowA ⟨wd.heap.size, 0, none⟩ 1 1 [.slice na tx.length nc] rfl rfl hnews (by intro u hu; simp at hu; subst hu; rfl) (by decide) (by unfold maxLen; omega) (by omega) hzW _ rfl ?_
               intro g cap w8 hown8 hgrow8 hat8 hgl8
               have HNX := hid (HST.out g cap w8 hgrow8 hown8)
               clear hown8 hgrow8 hat8 hrowA hnews HST))
          go_roundw
          case rel => exact ⟨m, _, _, _, _, _, _, _, HMn.out, rfl, rfl, by go_num, HNX⟩
          case measure => simp [intOf] <;> omega
end Go.Proofs.YtmafaioohiaenaaDoor
