/- Contract of the document's own Delete. -/
import Derived.Test.YthkeofinamedfaaDoorRef4G
namespace Go.Proofs.YthkeofinamedfaaDoor
open Go.RowKit Go.Shelf
set_option linter.unusedVariables false
set_option linter.unusedSimpArgs false
set_option maxRecDepth 20000

theorem del_row_end {S : Nat → Prop} {w W wC : World} {xb m n : Nat} {sv vA vC : Value} {xs : List EntV} (hx : w.heap[xb]? = some (.cells #[sv] 35 (0, 0))) (hE : EntsS S w sv xs) (hxb : S xb) (hlt : ∀ i, S i → i < w.heap.size)
    (hb : Below w.heap.size w W) (hA : W.ownsRow w.heap.size 52 2 vA m ((xs.take m).flatMap EntV.two)) (hm : m ≤ xs.length) {L : List Value}
    (hC : wC.ownsRow w.heap.size 52 2 vC n L) (hL : L = (xs.take m).flatMap EntV.two ++ (xs.drop (m + 1)).flatMap EntV.two) (hg : W.grownBy wC vA.ownBlock) :
    wC.cell? ⟨xb, 0, none⟩ = some sv ∧ wC.frozen? ⟨xb, 0, none⟩ = false ∧ XS (ext S w (wC.setCell ⟨xb, 0, none⟩ vC)) (wC.setCell ⟨xb, 0, none⟩ vC) xb (xs.take m ++ xs.drop (m + 1)) ∧ Spares (fun i => i = xb) w (wC.setCell ⟨xb, 0, none⟩ vC) := by
  subst hL
  have hn : n = (xs.take m ++ xs.drop (m + 1)).length := by
    have h1 := hC.1
    rw [← List.flatMap_append, two_length] at h1
    omega
  subst hn
  have hlow : ∀ q, vA.ownBlock = some q → w.heap.size ≤ q := fun q hq => (hA.lt q hq).1
  have hbC : Below w.heap.size w wC := hb.grown hg hb.size hlow
  have hxC : wC.heap[xb]? = some (.cells #[sv] 35 (0, 0)) := (hbC.block _ (hlt xb hxb)).trans hx
  have hst := xs_store (ys := xs.take m ++ xs.drop (m + 1)) (sv' := vC) hxC hxb hlt hbC (by rw [List.flatMap_append]; exact hC) (fun y hy => by
    have hy' : y ∈ xs := by
      rcases List.mem_append.1 hy with hy | hy
      · exact List.mem_of_mem_take hy
      · exact List.mem_of_mem_drop hy
    obtain ⟨s1, s2⟩ := (hE.ents.new hbC).says (Nat.le_refl _) y hy'
    exact ⟨s1, s2, (hE.all y hy').1.mono (fun i hi => .inl hi), (hE.all y hy').2.mono (fun i hi => .inl hi)⟩) (fun n e => by
    obtain ⟨a, c, e', _⟩ := hE.ents
    rw [e'] at e
    cases e)
  exact ⟨by rw [cell_of_row _ _ _ _ _ _ hxC]; rfl, by simp [World.frozen?, hxC], hst.1, hst.2⟩

set_option maxHeartbeats 8000000 in
theorem xdelete_any (S : Nat → Prop) (xb : Nat) (xs : List EntV) (T : Option Tri) (kv : Value) (key : List UInt8) (w : World) (h : XS S w xb xs) (hT : Tri.WFO T) (hx' : xs.map EntV.ent = Tri.entsO T) (hk : Says w kv key) (hn : xs.length < 1000000) :
    Calls Tryd.prog 31 #[.pointer (some ⟨xb, 0, none⟩), kv] w fun e w' => e = .returned (.bool (look T key).isSome) ∧ ∃ ys, XS (ext S w w') w' xb ys ∧ ys.map EntV.ent = Tri.entsO (dropT T key) ∧ Spares (fun i => i = xb) w w' := by
  have H0 := hid h
  obtain ⟨⟨sv, hx, hE⟩, hxb, hlt⟩ := h
  obtain ⟨a1, c1, rfl, _⟩ := id hk
  obtain ⟨a, c, rfl, hc1, hc2, _⟩ := id hE.ents
  unfold maxLen at hc2
  have HAT := xat_any xb _ _ xs key w hx hE.ents hk
  have hle := atK_le (xs.map EntV.ent) key
  have hla := look_at hT key
  have hdr := fun e h1 h2 => drop_row (T := T) (key := key) (e := e) hT h1 h2
  rw [hx'] at HAT hle
  rw [← hx', List.length_map, hx'] at hle
  obtain ⟨m, hm⟩ : ∃ m, atK (Tri.entsO T) key = m := ⟨_, rfl⟩
  rw [hm] at HAT hle hla hdr
  have hxbz : xb < w.heap.size := block_lt hx
  have HF : Hid (∀ W, Below w.heap.size w W → W.cell? ⟨xb, 0, none⟩ = some (.slice a xs.length c) ∧ Ents W.heap.size W (.slice a xs.length c) xs ∧ Says W (.slice a1 key.length c1) key) := hid (fun W hW => ⟨by rw [cell_of_row _ _ _ _ _ _ ((hW.block _ hxbz).trans hx)]; rfl, hE.ents.new hW, hk.new hW⟩)
  have HX' := hid hx'
  have HX := hid hx
  have HE := hid hE
  have HXB := hid hxb
  have HLT := hid hlt
  have hform := hE.form
  have HNO : Hid (∀ W, Below w.heap.size w W → look T key = none → ∃ ys, XS (ext S w W) W xb ys ∧ ys.map EntV.ent = Tri.entsO (dropT T key) ∧ Spares (fun i => i = xb) w W) := hid (fun W hW hl => by
    have hd : dropT T key = T := by
      cases T with
      | none => rfl
      | some t =>
        simp only [look] at hl
        split at hl
        · cases hl
        · rename_i hne; simp only [dropT, if_neg hne]
    refine ⟨xs, ?_, by rw [hd]; exact hx', Spares.of_new hW⟩
    obtain ⟨⟨sv, k1, k2⟩, k3, k4⟩ := H0.out.new hW
    exact ⟨⟨sv, k1, k2.ents, k2.row.mono (fun i hi => .inl hi), fun x hx => ⟨(k2.all x hx).1.mono (fun i hi => .inl hi), (k2.all x hx).2.mono (fun i hi => .inl hi)⟩, k2.form⟩, .inl k3, fun i hi => by
      rcases hi with hi | hi
      · exact k4 i hi
      · exact hi.2⟩)
  clear hE hx hk hlt hxb hm hx'
  by_cases hmn : m < xs.length
  · obtain ⟨b, off, la, lc, ua, uc, lb, ub, rfl, hb', hy, d0, d1, t1, t2⟩ := (HF.out w (Below.refl _ _)).2.1.at m hmn
    have hoff : off = 0 := by
      rcases hform with h | ⟨g, c', h⟩
      · simp at h
      · simp only [Value.slice.injEq, Option.some.injEq, Addr.mk.injEq] at h; exact h.1.2.1
    subst hoff
    rw [Nat.zero_add] at d0
    have hye := ent_at HX'.out hy
    have hmi : (m : Int) < (xs.length : Int) := by omega
    have hmi0 : (0 : Int) ≤ (m : Int) := by omega
    have hmd : ((m : Int) == (xs.length : Int)) = false := by rw [beq_eq_false_iff_ne]; omega
    have hmd2 : ¬ (m : Int) = (xs.length : Int) := by omega
    have hmd3 : ¬ m = xs.length := by omega
    by_cases hkk : lb = key
    · have hlk : look T key = some ub := by
        rcases hla with ⟨e, h1, h2, h3⟩ | ⟨h1, _⟩
        · rw [hye] at h1; cases h1; exact h3
        · exact absurd hkk (h1 _ hye)
      have HDR := hid (hdr _ hye hkk)
      rw [hlk]
      have hmc : (m : Int) ≤ (c : Int) := by omega
      have hmle : (m : Int) ≤ (xs.length : Int) := by omega
      have hm1 : ((m : Int) + 1) ≤ (xs.length : Int) := by omega
      have hm2 : (0 : Int) ≤ (m : Int) + 1 := by omega
      have hm3 : ((m : Int) + 1) ≤ (c : Int) := by omega
      go_enter Tryd.func31, Tryd.ntmps31
      go_wp2_with fail
      refine HAT.mono ?_
      clear HAT
      rintro e w1 ⟨rfl, q1, rfl⟩
      have hb1 : Below w.heap.size w (w.drewN q1) := below_drewN _ w q1
      have e1 := fun nq => str4 ((t1.below hb1).below (below_drewN _ (w.drewN q1) nq))
      have e2 := fun nq => str4 ((HF.out _ hb1).2.2.new (below_drewN _ (w.drewN q1) nq))
      simp only [show str8 lb = str8 key by rw [hkk]] at e1
      have r1 := (HF.out _ hb1).1
      have r2 : (w.drewN q1).cell? ⟨b, m * 2, none⟩ = some (.slice la lb.length lc) := d0
      have HB1 := hid hb1
      clear hb1 hy hye hla hkk t1 t2 hlk hdr d0 d1 hform
      generalize w.drewN q1 = w1 at *
      go_wp2_with fail
      go_quiet (fail)
      have HB2 := hid (HB1.out.trans (below_drewN _ w1 nq))
      clear e1 e2 r1 r2 HB1
      generalize w1.drewN nq = w2 at *
      have s1 := (HF.out _ HB2.out).1
      have hz2 := HB2.out.size
      have HT1 := hid ((HF.out _ HB2.out).2.1.take m (by omega))
      go_wp2_with (first
        | (at_builtin; refine wpList_append_ents _ rfl (.tmp 31) (.tmp 37) rfl w.heap.size _ 0 [] rfl (World.ownsRow_nil _ _ _ _) _ _ (xs.take m) rfl HT1.out (fun l c e => by cases e) (by simp; omega) hz2 ?_))
      intro vA wA oA gA
      obtain ⟨⟨aA, cA, rfl⟩, _⟩ := row_form2 oA
      have HBA := hid (HB2.out.grown gA hz2 (fun q hq => by cases hq))
      have HOA := hid oA
      have sA := (HF.out _ HBA.out).1
      clear oA gA s1 HT1 HB2
      by_cases hck : c = m + 1
      · have hck' := hck.symm
        clear hck
        subst hck'
        go_wp2_with (first
          | (at_builtin; refine wpList_append_ents _ rfl (.tmp 40) (.tmp 47) rfl w.heap.size _ m _ rfl HOA.out wA.heap.size _ (xs.drop (m + 1)) rfl ?src ?nil (by simp; omega) HBA.out.size ?_))
        case src =>
          rw [show xs.drop (m + 1) = [] from List.drop_eq_nil_of_le (by omega)]
          refine ents_nil _ _ _ _ _ ?_ ?_
          · first | rfl | omega
          · first | (unfold maxLen; omega) | exact Nat.zero_le _
        case nil => intro l c e; first | cases e | simp [Act.eval] at e
        intro vC wC oC gC
        obtain ⟨⟨aC, cC, rfl⟩, _⟩ := row_form2 oC
        have HST := hid (del_row_end HX.out HE.out HXB.out HLT.out HBA.out HOA.out (by omega) oC (by simp) gC)
        have rC := HST.out.1
        have fC := HST.out.2.1
        clear oC gC
        go_wp2
        go_ret
        exact ⟨rfl, _, HST.out.2.2.1, by rw [List.map_append, List.map_take, List.map_drop, HX'.out, HDR.out], HST.out.2.2.2⟩
      · have hck2 : ¬ (c : Int) = (m : Int) + 1 := by omega
        by_cases hin : m + 1 < xs.length
        · go_wp2_with (first
            | (at_builtin; refine wpList_append_ents _ rfl (.tmp 40) (.tmp 47) rfl w.heap.size _ m _ rfl HOA.out wA.heap.size _ (xs.drop (m + 1)) rfl ?src ?nil (by simp; omega) HBA.out.size ?_))
          case src =>
            have hd := (HF.out _ HBA.out).2.1.drop (m + 1) (by omega)
            rw [Nat.zero_add] at hd
            exact hd
          case nil => intro l c e; first | cases e | simp [Act.eval] at e
          intro vC wC oC gC
          obtain ⟨⟨aC, cC, rfl⟩, _⟩ := row_form2 oC
          have HST := hid (del_row_end HX.out HE.out HXB.out HLT.out HBA.out HOA.out (by omega) oC (by simp) gC)
          have rC := HST.out.1
          have fC := HST.out.2.1
          clear oC gC
          go_wp2
          go_ret
          exact ⟨rfl, _, HST.out.2.2.1, by rw [List.map_append, List.map_take, List.map_drop, HX'.out, HDR.out], HST.out.2.2.2⟩
        · go_wp2_with (first
            | (at_builtin; refine wpList_append_ents _ rfl (.tmp 40) (.tmp 47) rfl w.heap.size _ m _ rfl HOA.out wA.heap.size _ (xs.drop (m + 1)) rfl ?src ?nil (by simp; omega) HBA.out.size ?_))
          case src =>
            rw [show xs.drop (m + 1) = [] from List.drop_eq_nil_of_le (by omega)]
            refine ents_nil _ _ _ _ _ ?_ ?_
            · first | rfl | omega
            · first | (unfold maxLen; omega) | exact Nat.zero_le _
          case nil => intro l c e; first | cases e | simp [Act.eval] at e
          intro vC wC oC gC
          obtain ⟨⟨aC, cC, rfl⟩, _⟩ := row_form2 oC
          have HST := hid (del_row_end HX.out HE.out HXB.out HLT.out HBA.out HOA.out (by omega) oC (by simp) gC)
          have rC := HST.out.1
          have fC := HST.out.2.1
          clear oC gC
          go_wp2
          go_ret
          exact ⟨rfl, _, HST.out.2.2.1, by rw [List.map_append, List.map_take, List.map_drop, HX'.out, HDR.out], HST.out.2.2.2⟩
    · have hlk : look T key = none := by
        rcases hla with ⟨e, h1, h2, h3⟩ | ⟨h1, h2⟩
        · rw [hye] at h1; cases h1; exact absurd h2 hkk
        · exact h2
      have HLK := hid hlk
      rw [hlk]
      go_enter Tryd.func31, Tryd.ntmps31
      go_wp2_with fail
      refine HAT.mono ?_
      clear HAT
      rintro e w1 ⟨rfl, q1, rfl⟩
      have hb1 : Below w.heap.size w (w.drewN q1) := below_drewN _ w q1
      have e1 := fun nq => str4 ((t1.below hb1).below (below_drewN _ (w.drewN q1) nq))
      have e2 := fun nq => str4 ((HF.out _ hb1).2.2.new (below_drewN _ (w.drewN q1) nq))
      have hne : ¬ (str8 lb).toList = (str8 key).toList := by rw [str8_toList, str8_toList]; exact hkk
      have r1 := (HF.out _ hb1).1
      have r2 : (w.drewN q1).cell? ⟨b, m * 2, none⟩ = some (.slice la lb.length lc) := d0
      have HB1 := hid hb1
      clear hb1 hy hye hla hkk t1 t2 hlk hdr d0 d1 hform
      generalize str8 lb = S1 at *
      generalize str8 key = S2 at *
      have hne1 : (S1.toList == S2.toList) = false := by simpa using hne
      have hne2 : decide (S1.toList = S2.toList) = false := by simpa using hne
      generalize w.drewN q1 = w1 at *
      go_wp2_with fail
      go_quiet (fail)
      have HB2 := hid (HB1.out.trans (below_drewN _ w1 nq))
      go_wp2
      go_ret
      exact ⟨rfl, HNO.out _ HB2.out HLK.out⟩
  · have hmn' : m = xs.length := by omega
    have hlk : look T key = none := by
      rcases hla with ⟨e, h1, h2, h3⟩ | ⟨h1, h2⟩
      · rw [← HX'.out, List.getElem?_eq_none (by simp; omega)] at h1; cases h1
      · exact h2
    have HLK := hid hlk
    rw [hlk]
    go_enter Tryd.func31, Tryd.ntmps31
    go_wp2_with fail
    refine HAT.mono ?_
    clear HAT
    rintro e w1 ⟨rfl, q1, rfl⟩
    have hb1 : Below w.heap.size w (w.drewN q1) := below_drewN _ w q1
    have r1 := (HF.out _ hb1).1
    have HB1 := hid hb1
    clear hb1 hla hlk hdr hform
    subst hmn'
    generalize w.drewN q1 = w1 at *
    go_wp2_with fail
    go_quiet (fail)
    have HB2 := hid (HB1.out.trans (below_drewN _ w1 nq))
    go_wp2
    go_ret
    exact ⟨rfl, HNO.out _ HB2.out HLK.out⟩
end Go.Proofs.YthkeofinamedfaaDoor
