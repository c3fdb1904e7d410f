/- Contract of Delete. -/
import Derived.Test.YtjfipejfejmlaaaBtPut
namespace Go.Proofs.Ytjfipejfejmlaaa
open Go.RowKit Go.Shelf
set_option linter.unusedVariables false
set_option linter.unusedSimpArgs false
set_option maxRecDepth 20000

theorem del_there {xs : List EntV} {key : List UInt8} (hh : hitK (xs.map EntV.ent) key = true) :
    delL (xs.map EntV.ent) key = (xs.take (atK (xs.map EntV.ent) key) ++ xs.drop (atK (xs.map EntV.ent) key + 1)).map EntV.ent := by
  unfold delL
  rw [hh, if_pos rfl]
  simp

theorem del_none {L : List Ent} {key : List UInt8} (hh : hitK L key = false) : delL L key = L := by
  unfold delL
  rw [hh, if_neg (by simp), List.take_append_drop]

theorem two_del (xs : List EntV) (m : Nat) : (xs.take m ++ xs.drop (m + 1)).flatMap EntV.two = (xs.flatMap EntV.two).take (m * 2) ++ (xs.flatMap EntV.two).drop ((m + 1) * 2) := by
  rw [two_take, two_drop]
  simp

theorem delL_length {L : List Ent} {key : List UInt8} (hh : hitK L key = true) : (delL L key).length + 1 = L.length := by
  have hlt : atK L key < L.length := by
    unfold hitK at hh
    rcases Nat.lt_or_ge (atK L key) L.length with h | h
    · exact h
    · rw [List.getElem?_eq_none h] at hh
      simp at hh
  unfold delL
  rw [hh, if_pos rfl, List.length_append, List.length_take, List.length_drop]
  omega

set_option maxHeartbeats 8000000 in
theorem btx_delete {S : Nat → Prop} {w : World} {tb d : Nat} {P : List (List Ent)} (kv : Value) (key : List UInt8) (h : BTx S w tb P d) (hk : Says w kv key) (hn : P.flatten.length < 100000) :
    Calls Try.prog 17 #[.pointer (some ⟨tb, 0, none⟩), kv] w fun e w' => e = .returned (.bool (hitK P.flatten key)) ∧ ∃ S' P' d', BTx S' w' tb P' d' ∧ P'.flatten = delL P.flatten key ∧ (∀ i, S' i → S i ∨ w.heap.size ≤ i) ∧ Spares S w w' := by
  have hd := btx_height h hn
  have HBT := hid h
  obtain ⟨K, H, T, h1, h2, h3, h4, rfl, rfl, h7⟩ := h
  have hfe := pagesV_flat T
  rw [hfe] at hn ⊢
  have HFE := hid hfe
  have HW := walk_any H T K tb _ kv key w h1.tree h1.lies h2 h3 hk (by omega)
  obtain ⟨ak, ck, rfl, _⟩ := id hk
  have HK := hid hk
  have H1 := hid h1
  have H2 := hid h2
  have H3 := hid h3
  have H4 := hid h4
  have H7 := hid h7
  have HN : Hid ((flat (H + 1) T).length < 100000) := hid (by rw [entsV, List.length_map] at hn; exact hn)
  have htl := block_lt h1.tree
  clear h1 h2 h3 h4 hk h7 hn hfe
  go_enter Try.func17, Try.ntmps17
  go_wp2_with (first
    | (go_at_call 25; refine HW.mono ?_; clear HW; rintro e w1 ⟨wv, c, p, rfl, hp, hrow, hbf, haf, hb⟩
       obtain ⟨aw, cw, rfl⟩ := row_slice hrow
       have hT1 := H1.out.new hb
       have hA := atLeaf_of hT1.lies H2.out H3.out hp hbf haf
       have HA := hid hA
       have HB := hid hb
       have HWR := hid hrow
       have hz1 := hb.size
       have HF := find_any p.pb p.sv p.fv _ p.es key w1 (lies_pg.1 hA.lies).1.blk (leaf_ents hA.lies) (HK.out.new hb) ((risesV_iff _).2 hA.rises) (by have := hA.few; omega)
       clear hA hT1 hp hbf haf hrow hb)
    | (go_at_call 26; refine HF.mono ?_; clear HF; rintro e w2 ⟨rfl, hb2⟩
       have HB2 := htr HB hb2
       have hz2 := hb2.size
       have HAw : Hid (AtLeaf K w T key c p) := hid (atLeaf_of H1.out.lies H2.out H3.out HA.out.plug HA.out.bef HA.out.aft)
       have HHIT : Hid (hitK (entsV (flat (H + 1) T)) key = hitK ((p.es : List EntV).map EntV.ent) key) := hid (by rw [HA.out.ents]; exact hitK_mid HA.out.befE.1 HA.out.befE.2)
       have HDEL : Hid (delL (entsV (flat (H + 1) T)) key = entsV c.before ++ delL ((p.es : List EntV).map EntV.ent) key ++ entsV c.after) := hid (by rw [HA.out.ents]; exact delL_mid HA.out.befE.1 HA.out.befE.2)
       have HWR2 := hid ((Spares.of_new (S := fun _ => False) hb2).row HWR.out (fun _ _ => id))
       have hfew := HA.out.few
       have hpbl := block_lt (lies_pg.1 HAw.out.lies).1.blk
       obtain ⟨asv, csv, hsv⟩ := row_slice (lies_pg.1 HAw.out.lies).1.row
       have HSV := hid hsv
       have cp0 : w2.cell? ⟨p.pb, 0, none⟩ = some (.slice asv p.es.length csv) := by rw [cell_of_row _ _ _ _ _ _ ((HB2.out.block _ hpbl).trans (lies_pg.1 HAw.out.lies).1.blk), hsv]; rfl
       have HP0 := hid ((HB2.out.block _ hpbl).trans (lies_pg.1 HAw.out.lies).1.blk)
       clear hsv
       have hhit := hid (@leaf_hit p.es key)
       have hdt := hid (@del_there p.es key)
       clear hb2 HA HWR
       generalize hitK ((p.es : List EntV).map EntV.ent) key = hit at *
       generalize atK ((p.es : List EntV).map EntV.ent) key = m at *
       cases hit
       rotate_left
       have hhit' := hhit.out (by first | rfl | trivial)
       obtain ⟨x, hx, _, _⟩ := hhit'
       have hml : m < (p.es : List EntV).length := (List.getElem?_eq_some_iff.1 hx).1
       have hat := (lies_pg.1 HAw.out.lies).1
       obtain ⟨b, cap, hsv, cur, hbh, hcs, hct, hcap, hcm⟩ : ∃ b cap, p.sv = .slice (some ⟨b, 0, none⟩) p.es.length cap ∧ ∃ cur : Array Value, w.heap[b]? = some (.cells cur 46 (0, 0)) ∧ cur.size = cap * 2 ∧ cur.toList.take ((p.es : List EntV).length * 2) = (p.es : List EntV).flatMap EntV.two ∧ (p.es : List EntV).length ≤ cap ∧ cap ≤ maxLen := by
         rcases hat.row.2 with ⟨e, h0⟩ | ⟨g, cap, cur, e, _, hg, q1, q2, q3, q4⟩
         · have h0' : (p.es : List EntV).length = 0 := h0
           omega
         · exact ⟨g, cap, e, cur, hg, q3, q4, q1, q2⟩
       have hasv : asv = some ⟨b, 0, none⟩ ∧ csv = cap := by
         have := HSV.out
         rw [hsv] at this
         simp only [Value.slice.injEq] at this
         exact ⟨this.1.symm, this.2.2.symm⟩
       obtain ⟨rfl, rfl⟩ := hasv
       have hbl := block_lt hbh
       have hcs1 : ∀ u ∈ cur.toList.take ((p.es : List EntV).length * 2), u.oneCell' = true := fun u hu => by
         rw [hct] at hu
         obtain ⟨y, hy, hu⟩ := List.mem_flatMap.1 hu
         have := (lies_pg.1 HAw.out.lies).2.2 y hy
         simp only [EntV.two, List.mem_cons, List.not_mem_nil, or_false] at hu
         rcases hu with rfl | rfl
         · obtain ⟨a9, l9, c9, e9⟩ := says_slice this.1; rw [e9]; rfl
         · obtain ⟨a9, l9, c9, e9⟩ := says_slice this.2.1; rw [e9]; rfl
       have HSD := sdel_any b p.es.length csv m (m + 1) cur w2 ((HB2.out.block _ hbl).trans hbh) hcs hcap hcm hml rfl hcs1
       rw [show ((m + 1 : Nat) : Int) = (m : Int) + 1 by omega] at HSD
       have HCT := hid hct
       have HCM := hid (And.intro hcap hcm)
       have HML := hid hml
       have hm0 : (0 : Int) ≤ (m : Int) := by omega
       have hm1 : (m : Int) < 100 := by have h9 : (p.es : List EntV).length ≤ 4 := hfew; omega
       have hn1 : (1 : Int) ≤ ((flat (H + 1) T).length : Int) := by
         have h9 : (flat (H + 1) T).length = (c.before ++ (p.es : List EntV) ++ c.after).length := by rw [HAw.out.flat]
         simp only [List.length_append] at h9
         omega
       have hn2 : ((flat (H + 1) T).length : Int) < 100000 := by have := HN.out; omega
       clear hx hat hsv hbh hcs hct hcap hcm hcs1 hml)
    | (go_at_call 40; refine HSD.mono ?_; clear HSD; rintro e w3 ⟨rfl, cur', hb3, hc3, ht3, hs3⟩
       have hz3 := hs3.size
       have hpne : p.pb ≠ b := fun e => by
         have h9 := HP0.out
         obtain ⟨cs9, h8⟩ : ∃ cs9 : Array Value, w2.heap[b]? = some (.cells cs9 46 (0, 0)) := by
           have h7 := (lies_pg.1 HAw.out.lies).1.row
           rw [HSV.out] at h7
           rcases h7.2 with ⟨e7, _⟩ | ⟨g7, _, cur7, e7, _, hg7, _⟩
           · cases e7
           · have e8 : b = g7 := by simp at e7; exact e7.1
             subst e8
             exact ⟨cur7, (HB2.out.block _ (block_lt hg7)).trans hg7⟩
         rw [e, h8] at h9
         cases h9
       have HP3 := hid ((hs3.block _ (block_lt HP0.out) hpne).trans HP0.out)
       have cp3 : w3.cell? ⟨p.pb, 0, none⟩ = some (.slice (some ⟨b, 0, none⟩) p.es.length csv) := by rw [cell_of_row _ _ _ _ _ _ HP3.out, HSV.out]; rfl
       have fp3 : w3.frozen? ⟨p.pb, 0, none⟩ = false := by simp [World.frozen?, HP3.out]
       have HB3h := hid hb3
       have HC3 := hid hc3
       have HT3 := hid ht3
       have HS3 := hid hs3
       obtain ⟨es', hes'⟩ : ∃ es' : List EntV, (p.es : List EntV).take m ++ (p.es : List EntV).drop (m + 1) = es' := ⟨_, rfl⟩
       have hel : es'.length = (p.es : List EntV).length - 1 := by
         rw [← hes', List.length_append, List.length_take, List.length_drop]
         have := HML.out
         omega
       have hrow3 : w3.ownsRow 0 46 2 (.slice (some ⟨b, 0, none⟩) (p.es.length - 1) csv) es'.length (es'.flatMap EntV.two) := by
         rw [hel]
         refine ⟨by rw [two_length, hel], .inr ⟨b, csv, cur', rfl, Nat.zero_le _, hb3, by have := HCM.out.1; omega, HCM.out.2, hc3, ?_⟩⟩
         rw [← hes', two_del, ← HCT.out]
         exact ht3
       have hbown : p.sv.ownBlock = some b := by rw [HSV.out]; rfl
       have hbK : ¬ K b := fun hK => by
         have h9 := (H1.out.kfree b hK).1
         rw [HAw.out.tot b] at h9
         unfold totO at h9
         rw [if_pos hbown] at h9
         omega
       have hsw3 : Spares (fun i => p.sv.ownBlock = some i) w w3 := (Spares.of_new HB2.out).andThen hs3 (fun i hi => .inl (by have e : i = b := hi; rw [e]; exact hbown))
       have HLN := hid (leaf_new (cnt' := ((flat (H + 1) T).length : Int) - 1) H1.out HAw.out hsw3 hrow3 (fun g hg => .inl (by have e : g = b := (by simpa [Value.ownBlock] using hg.symm); rw [e]; exact hbown))
         (fun x hx => by
           have hxm : x ∈ (p.es : List EntV) := by
             rw [← hes'] at hx
             rcases List.mem_append.1 hx with hx | hx
             · exact List.mem_of_mem_take hx
             · exact List.mem_of_mem_drop hx
           exact ((lies_pg.1 HAw.out.lies).2.2 x hxm).keep hsw3 (fun i hi => by simp [occ] at hi) (fun i hi e => by
             rw [hbown] at e
             cases e
             exact hbK hi)) (fun i hi => hi) (fun i hi => .inl hi) (by have h9 : (p.es : List EntV).length ≤ 4 := hfew; omega) (fun htop => by
           have h9 := HAw.out.okp
           cases c with
           | top => cases htop
           | down =>
             have h8 : 2 ≤ (p.es : List EntV).length := (okE_pg.1 h9).1
             omega))
       have ht7 := HLN.out.2.2.2.1
       have q7 : (w3.setCell ⟨p.pb, 0, none⟩ (.slice (some ⟨b, 0, none⟩) (p.es.length - 1) csv)).cell? ⟨tb, 1, none⟩ = some (.int .i64 ((flat (H + 1) T).length : Nat)) := by rw [cell_of_row _ _ _ _ _ _ ht7]; rfl
       have f7 : (w3.setCell ⟨p.pb, 0, none⟩ (.slice (some ⟨b, 0, none⟩) (p.es.length - 1) csv)).frozen? ⟨tb, 1, none⟩ = false := by simp [World.frozen?, ht7]
       have hgl : ∀ g, (Value.slice aw c.turns.length cw).ownBlock = some g → w.heap.size ≤ g := fun g hg => (HWR2.out.lt g hg).1
       have hwr8 : ((w3.setCell ⟨p.pb, 0, none⟩ (.slice (some ⟨b, 0, none⟩) (p.es.length - 1) csv)).setCell ⟨tb, 1, none⟩ (.int .i64 (((flat (H + 1) T).length : Int) - 1))).ownsRow 0 84 2 (.slice aw c.turns.length cw) c.turns.length (turnC c.turns) := by
         have h1 := owns_lower HWR2.out (B' := 0) (fun _ _ => Nat.zero_le _)
         have h2 := hs3.row h1 (fun g hg e => by have h3 := hgl g hg; have e2 : g = b := e; omega)
         exact (spares_set _ ⟨tb, 1, none⟩ _).row ((spares_set w3 ⟨p.pb, 0, none⟩ _).row h2 (fun g hg e => by have h3 := hgl g hg; have e2 : g = p.pb := e; omega)) (fun g hg e => by have h3 := hgl g hg; have e2 : g = tb := e; omega)
       have htn : c.turns.length < 1000 := by
         have h8 := c.plug_height p
         rw [HAw.out.plug] at h8
         have h9 : H = 0 + c.turns.length := h8
         omega
       have HM := tmend_any _ _ tb _ c p.pb _ p.fv _ (.slice aw c.turns.length cw) HLN.out.1 hwr8 htn
       have HES := hid hes'
       have HDT := hid (hdt.out (by first | rfl | trivial))
       clear ht7 hwr8 hrow3 hel hes' hb3 hc3 ht3 hs3 hgl hsw3 hbown cp0)
    | (go_at_call 30; refine HM.mono ?_; clear HM; rintro e w9 ⟨⟨v9, rfl⟩, H', T', t1, t2, t3, t4, t5⟩))
  · go_ret
    rw [flatL_zero] at t3
    have hEnt : entsV (c.before ++ es' ++ c.after) = delL (entsV (flat (H + 1) T)) key := by
      rw [HDEL.out, HDT.out, HES.out]
      simp [entsV]
    have hLlen : ((flat (H + 1) T).length : Int) - 1 = ((c.before ++ es' ++ c.after).length : Nat) := by
      have h8 := congrArg List.length hEnt
      have h9 := delL_length (L := entsV (flat (H + 1) T)) (key := key) HHIT.out
      rw [← h8] at h9
      simp only [entsV, List.length_map] at h9
      omega
    have hRis : RisesV (c.before ++ es' ++ c.after) := (risesV_iff _).1 (by
      show Tri.Rises (entsV _)
      rw [hEnt]
      exact delL_rises _ ((risesV_iff _).2 H3.out) _)
    have hFin : ∀ x ∈ c.before ++ es' ++ c.after, Fine x.ent := fun x hx => by
      have h8 : x.ent ∈ entsV (c.before ++ es' ++ c.after) := List.mem_map.2 ⟨x, hx, rfl⟩
      rw [hEnt] at h8
      exact fine_del ((risesV_iff _).2 H3.out) (fun e he => by obtain ⟨y, hy, rfl⟩ := List.mem_map.1 he; exact H4.out y hy) key _ h8
    obtain ⟨S', d', r1, r2, r3, r4⟩ := btx_of_mend H1.out H7.out HAw.out HLN.out.2.2.1 (fun i hi => .inl hi) HLN.out.2.1 t1 t2 t3 hLlen hRis hFin t4 t5
    exact ⟨by rw [HHIT.out]; rfl, S', _, d', r1, by rw [r2, hEnt], r3, r4⟩
  · go_ret
    refine ⟨by rw [HHIT.out]; rfl, S, pagesV T, _, btx_keep HBT.out (R := fun _ => False) (Spares.of_new HB2.out) (fun _ _ => id), ?_, fun i hi => .inl hi, Spares.of_new HB2.out⟩
    rw [HFE.out, del_none HHIT.out]
end Go.Proofs.Ytjfipejfejmlaaa
