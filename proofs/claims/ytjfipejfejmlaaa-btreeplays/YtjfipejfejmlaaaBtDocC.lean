/- Contracts of the document's own Get and Delete (stage 14). -/
import Derived.Test.YtjfipejfejmlaaaBtDocB
namespace Go.Proofs.Ytjfipejfejmlaaa
open Go.RowKit Go.Shelf
set_option linter.unusedVariables false
set_option linter.unusedSimpArgs false
set_option maxRecDepth 20000

theorem lookL_hit {xs : List EntV} {key : List UInt8} {m : Nat} (hm : atK (xs.map EntV.ent) key = m) {x : EntV} (hx : xs[m]? = some x) (hr : hitK (xs.map EntV.ent) key = true) : lookL (xs.map EntV.ent) key = some x.v := by
  unfold lookL
  rw [if_pos hr, hm, ent_at rfl hx]
  rfl

set_option maxHeartbeats 8000000 in
theorem xget_any (S : Nat → Prop) (xb : Nat) (xs : List EntV) (kv : Value) (key : List UInt8) (w : World) (h : XS S w xb xs) (hk : Says w kv key) (hs : ∀ x ∈ xs, x.v.length ≤ 140737488351232) (hn : xs.length < 1000000) :
    Calls Try.prog 34 #[.pointer (some ⟨xb, 0, none⟩), kv] w fun e w' => ∃ v', e = .returned (.tuple #[v', .bool (hitK (xs.map EntV.ent) key)]) ∧ Copy w.heap.size w' v' ((lookL (xs.map EntV.ent) key).getD []) ∧ Below w.heap.size w w' := by
  obtain ⟨⟨sv, hx, hE⟩, hxb, hlt⟩ := h
  obtain ⟨a1, c1, rfl, _⟩ := id hk
  obtain ⟨a, c, rfl, hc1, hc2, _⟩ := id hE.ents
  unfold maxLen at hc2
  have HAT := xat_any xb _ _ xs key w hx hE.ents hk
  have hle := atK_le (xs.map EntV.ent) key
  rw [List.length_map] at hle
  have hxbz : xb < w.heap.size := block_lt hx
  obtain ⟨m, hm⟩ : ∃ m, atK (xs.map EntV.ent) key = m := ⟨_, rfl⟩
  rw [hm] at HAT hle
  have HM := hid hm
  have HE := hid hE
  have HX := hid hx
  have HLT := hid hlt
  have HXB := hid hxb
  have HF : Hid (∀ W, Below w.heap.size w W → W.heap[xb]? = some (.cells #[.slice a xs.length c] 29 (0, 0)) ∧ Ents W.heap.size W (.slice a xs.length c) xs ∧ Says W (.slice a1 key.length c1) key) := hid (fun W hW => ⟨(hW.block _ hxbz).trans hx, hE.ents.new hW, hk.new hW⟩)
  have hform := hE.form
  clear hE hx hk hlt hxb hm
  obtain ⟨r, hr⟩ : ∃ r, hitK (xs.map EntV.ent) key = r := ⟨_, rfl⟩
  have HR := hid hr
  rw [hr]
  clear hr
  cases r with
  | true =>
    have hmn : m < xs.length := by
      rcases Nat.lt_or_ge m xs.length with h | h
      · exact h
      · have := hitK_end HM.out h; rw [HR.out] at this; cases this
    obtain ⟨b, off, la, lc, ua, uc, lb, ub, rfl, hb', hy, d0, d1, t1, t2⟩ := (HF.out w (Below.refl _ _)).2.1.at m hmn
    have hlk := lookL_hit HM.out hy HR.out
    have hub : ub.length ≤ 140737488351232 := hs _ (List.mem_of_getElem? hy)
    rw [hlk]
    have hmi : (m : Int) < (xs.length : Int) := by omega
    have hmi0 : (0 : Int) ≤ (m : Int) := by omega
    have HU := hid t2
    have HD := hid d1
    clear hy d0 d1 t1 t2 hs hlk hform
    go_enter Try.func34, Try.ntmps34
    go_wp2_with fail
    refine HAT.mono ?_
    clear HAT
    rintro e w0 ⟨rfl, q0, rfl⟩
    have hb0 : Below w.heap.size w (w.drewN q0) := below_drewN _ w q0
    have HB0 := hid hb0
    have HHS := hid (xhas_any xb _ _ _ _ key _ (HF.out _ hb0).1 (HF.out _ hb0).2.1 (HF.out _ hb0).2.2 HM.out)
    clear hb0
    simp only [HR.out] at HHS
    generalize w.drewN q0 = w0 at *
    go_wp2_with fail
    refine HHS.out.mono ?_
    clear HHS
    rintro e w1 ⟨rfl, q1, rfl⟩
    have hb1 : Below w.heap.size w (w0.drewN q1) := HB0.out.trans (below_drewN _ w0 q1)
    have r1 : (w0.drewN q1).cell? ⟨xb, 0, none⟩ = some (.slice (some ⟨b, off, none⟩) xs.length c) := by rw [cell_of_row _ _ _ _ _ _ (HF.out _ hb1).1]; rfl
    have HB1 := hid hb1
    clear hb1 HB0
    generalize w0.drewN q1 = w1 at *
    have hz1 := HB1.out.size
    have r3 : w1.cell? ⟨b, off + m * 2 + 1, none⟩ = some (.slice ua ub.length uc) := by rw [HB1.out.cell (p := ⟨b, off + m * 2 + 1, none⟩) hb']; exact HD.out
    have HC := copied_any _ ub w1 ((HU.out.below HB1.out).mono hz1) hub
    go_wp2_with (go_at_call 52; refine HC.mono ?_; clear HC; rintro e w3 ⟨v3, rfl, k3, hb3⟩)
    go_ret2
    exact ⟨_, rfl, owns_lower k3 (fun g hg => by have h1 := (k3.lt g hg).1; omega), HB1.out.trans (hb3.mono hz1)⟩
  | false =>
    have hlk : lookL (xs.map EntV.ent) key = none := by unfold lookL; rw [HR.out]; rfl
    rw [hlk]
    clear hs hlk hform
    go_enter Try.func34, Try.ntmps34
    go_wp2_with fail
    refine HAT.mono ?_
    clear HAT
    rintro e w0 ⟨rfl, q0, rfl⟩
    have hb0 : Below w.heap.size w (w.drewN q0) := below_drewN _ w q0
    have HB0 := hid hb0
    have HHS := hid (xhas_any xb _ _ _ _ key _ (HF.out _ hb0).1 (HF.out _ hb0).2.1 (HF.out _ hb0).2.2 HM.out)
    clear hb0
    simp only [HR.out] at HHS
    generalize w.drewN q0 = w0 at *
    go_wp2_with fail
    refine HHS.out.mono ?_
    clear HHS
    rintro e w1 ⟨rfl, q1, rfl⟩
    have hb1 : Below w.heap.size w (w0.drewN q1) := HB0.out.trans (below_drewN _ w0 q1)
    have r1 : (w0.drewN q1).cell? ⟨xb, 0, none⟩ = some (.slice a xs.length c) := by rw [cell_of_row _ _ _ _ _ _ (HF.out _ hb1).1]; rfl
    have HB1 := hid hb1
    clear hb1 HB0
    generalize w0.drewN q1 = w1 at *
    have hz1 := HB1.out.size
    go_wp2
    go_ret2
    exact ⟨_, rfl, World.ownsRow_nil _ _ _ _, HB1.out⟩

theorem del_row_end {S : Nat → Prop} {w W wC : World} {xb m n : Nat} {sv vA vC : Value} {xs : List EntV} (hx : w.heap[xb]? = some (.cells #[sv] 29 (0, 0))) (hE : EntsS S w sv xs) (hxb : S xb) (hlt : ∀ i, S i → i < w.heap.size)
    (hb : Below w.heap.size w W) (hA : W.ownsRow w.heap.size 46 2 vA m ((xs.take m).flatMap EntV.two)) (hm : m ≤ xs.length) {L : List Value}
    (hC : wC.ownsRow w.heap.size 46 2 vC n L) (hL : L = (xs.take m).flatMap EntV.two ++ (xs.drop (m + 1)).flatMap EntV.two) (hg : W.grownBy wC vA.ownBlock) :
    wC.cell? ⟨xb, 0, none⟩ = some sv ∧ wC.frozen? ⟨xb, 0, none⟩ = false ∧ XS (ext S w (wC.setCell ⟨xb, 0, none⟩ vC)) (wC.setCell ⟨xb, 0, none⟩ vC) xb (xs.take m ++ xs.drop (m + 1)) ∧ Spares (fun i => i = xb) w (wC.setCell ⟨xb, 0, none⟩ vC) := by
  subst hL
  have hn : n = (xs.take m ++ xs.drop (m + 1)).length := by
    have h1 := hC.1
    rw [← List.flatMap_append, two_length] at h1
    omega
  subst hn
  have hlow : ∀ q, vA.ownBlock = some q → w.heap.size ≤ q := fun q hq => (hA.lt q hq).1
  have hbC : Below w.heap.size w wC := hb.grown hg hb.size hlow
  have hxC : wC.heap[xb]? = some (.cells #[sv] 29 (0, 0)) := (hbC.block _ (hlt xb hxb)).trans hx
  have hst := xs_store (ys := xs.take m ++ xs.drop (m + 1)) (sv' := vC) hxC hxb hlt hbC (by rw [List.flatMap_append]; exact hC) (fun y hy => by
    have hy' : y ∈ xs := by
      rcases List.mem_append.1 hy with hy | hy
      · exact List.mem_of_mem_take hy
      · exact List.mem_of_mem_drop hy
    obtain ⟨s1, s2⟩ := (hE.ents.new hbC).says (Nat.le_refl _) y hy'
    exact ⟨s1, s2, (hE.all y hy').1.mono (fun i hi => .inl hi), (hE.all y hy').2.mono (fun i hi => .inl hi)⟩) (fun n e => by
    obtain ⟨a, c, e', _⟩ := hE.ents
    rw [e'] at e
    cases e)
  exact ⟨by rw [cell_of_row _ _ _ _ _ _ hxC]; rfl, by simp [World.frozen?, hxC], hst.1, hst.2⟩

set_option maxHeartbeats 8000000 in
theorem xdelete_any (S : Nat → Prop) (xb : Nat) (xs : List EntV) (kv : Value) (key : List UInt8) (w : World) (h : XS S w xb xs) (hk : Says w kv key) (hn : xs.length < 1000000) :
    Calls Try.prog 33 #[.pointer (some ⟨xb, 0, none⟩), kv] w fun e w' => e = .returned (.bool (hitK (xs.map EntV.ent) key)) ∧ ∃ ys, XS (ext S w w') w' xb ys ∧ ys.map EntV.ent = delL (xs.map EntV.ent) key ∧ Spares (fun i => i = xb) w w' := by
  have H0 := hid h
  obtain ⟨⟨sv, hx, hE⟩, hxb, hlt⟩ := h
  obtain ⟨a1, c1, rfl, _⟩ := id hk
  obtain ⟨a, c, rfl, hc1, hc2, _⟩ := id hE.ents
  unfold maxLen at hc2
  have HAT := xat_any xb _ _ xs key w hx hE.ents hk
  have hle := atK_le (xs.map EntV.ent) key
  rw [List.length_map] at hle
  have hxbz : xb < w.heap.size := block_lt hx
  obtain ⟨m, hm⟩ : ∃ m, atK (xs.map EntV.ent) key = m := ⟨_, rfl⟩
  rw [hm] at HAT hle
  have HM := hid hm
  have HE := hid hE
  have HX := hid hx
  have HLT := hid hlt
  have HXB := hid hxb
  have HF : Hid (∀ W, Below w.heap.size w W → W.heap[xb]? = some (.cells #[.slice a xs.length c] 29 (0, 0)) ∧ Ents W.heap.size W (.slice a xs.length c) xs ∧ Says W (.slice a1 key.length c1) key) := hid (fun W hW => ⟨(hW.block _ hxbz).trans hx, hE.ents.new hW, hk.new hW⟩)
  have hform := hE.form
  clear hE hx hk hlt hxb hm
  obtain ⟨r, hr⟩ : ∃ r, hitK (xs.map EntV.ent) key = r := ⟨_, rfl⟩
  have HR := hid hr
  rw [hr]
  clear hr
  cases r with
  | true =>
    have hmn : m < xs.length := by
      rcases Nat.lt_or_ge m xs.length with h | h
      · exact h
      · have := hitK_end HM.out h; rw [HR.out] at this; cases this
    obtain ⟨b, rfl⟩ : ∃ b, a = some ⟨b, 0, none⟩ := by
      rcases hform with e | ⟨g, c', e⟩
      · simp only [Value.slice.injEq] at e; omega
      · simp only [Value.slice.injEq] at e; exact ⟨g, e.1⟩
    have HDR : Hid (delL (xs.map EntV.ent) key = (xs.take m).map EntV.ent ++ (xs.drop (m + 1)).map EntV.ent) := hid (by
      unfold delL
      simp only [HM.out, HR.out, if_true]
      rw [List.map_take, List.map_drop])
    have hmi : (m : Int) ≤ (xs.length : Int) := by omega
    have hmi0 : (0 : Int) ≤ (m : Int) := by omega
    have hmc : (m : Int) ≤ (c : Int) := by omega
    have hm1 : ((m : Int) + 1) ≤ (xs.length : Int) := by omega
    have hm2 : (0 : Int) ≤ (m : Int) + 1 := by omega
    have hm3 : ((m : Int) + 1) ≤ (c : Int) := by omega
    clear hform
    go_enter Try.func33, Try.ntmps33
    go_wp2_with fail
    refine HAT.mono ?_
    clear HAT
    rintro e w0 ⟨rfl, q0, rfl⟩
    have hb0 : Below w.heap.size w (w.drewN q0) := below_drewN _ w q0
    have HB0 := hid hb0
    have HHS := hid (xhas_any xb _ _ _ _ key _ (HF.out _ hb0).1 (HF.out _ hb0).2.1 (HF.out _ hb0).2.2 HM.out)
    clear hb0
    simp only [HR.out] at HHS
    generalize w.drewN q0 = w0 at *
    go_wp2_with fail
    refine HHS.out.mono ?_
    clear HHS
    rintro e w1 ⟨rfl, q1, rfl⟩
    have hb1 : Below w.heap.size w (w0.drewN q1) := HB0.out.trans (below_drewN _ w0 q1)
    have r1 : (w0.drewN q1).cell? ⟨xb, 0, none⟩ = some (.slice (some ⟨b, 0, none⟩) xs.length c) := by rw [cell_of_row _ _ _ _ _ _ (HF.out _ hb1).1]; rfl
    have HB1 := hid hb1
    clear hb1 HB0
    generalize w0.drewN q1 = w1 at *
    have hz1 := HB1.out.size
    have HT1 := hid ((HF.out _ HB1.out).2.1.take m (by omega))
    go_wp2_with (first
      | (at_builtin; refine wpList_append_ents _ rfl (.tmp 17) (.tmp 23) rfl w.heap.size _ 0 [] rfl (World.ownsRow_nil _ _ _ _) _ _ (xs.take m) rfl HT1.out (fun l c e => by cases e) (by simp; omega) hz1 ?_))
    intro vA wA oA gA
    obtain ⟨⟨aA, cA, rfl⟩, _⟩ := row_form2 oA
    have HBQ := hid (HB1.out.grown gA hz1 (fun q hq => by cases hq))
    have HOQ := hid oA
    have rA : wA.cell? ⟨xb, 0, none⟩ = some (.slice (some ⟨b, 0, none⟩) xs.length c) := by rw [cell_of_row _ _ _ _ _ _ (HF.out _ HBQ.out).1]; rfl
    clear oA gA HT1 HB1 r1
    by_cases hck : c = (m + 1)
    · have hck' := hck.symm
      clear hck
      subst hck'
      go_wp2_with (first
        | (at_builtin; refine wpList_append_ents _ rfl (.tmp 26) (.tmp 33) rfl w.heap.size _ m _ rfl HOQ.out wA.heap.size _ (xs.drop (m + 1)) rfl ?src ?nil (by simp; omega) HBQ.out.size ?_))
      case src =>
        rw [show xs.drop (m + 1) = [] from List.drop_eq_nil_of_le (by omega)]
        refine ents_nil _ _ _ _ _ ?_ ?_
        · first | rfl | omega
        · first | (unfold maxLen; omega) | exact Nat.zero_le _
      case nil => intro l c e; first | cases e | simp [Act.eval] at e
      intro vC wC oC gC
      obtain ⟨⟨aC, cC, rfl⟩, _⟩ := row_form2 oC
      have HST := hid (del_row_end HX.out HE.out HXB.out HLT.out HBQ.out HOQ.out (by omega) oC (by simp) gC)
      have rC := HST.out.1
      have fC := HST.out.2.1
      clear oC gC
      go_wp2
      go_ret
      exact ⟨rfl, _, HST.out.2.2.1, by rw [HDR.out, List.map_append], HST.out.2.2.2⟩
    · have hck2 : ¬ (c : Int) = (m : Int) + 1 := by omega
      by_cases hin : (m + 1) < xs.length
      · skip
        go_wp2_with (first
          | (at_builtin; refine wpList_append_ents _ rfl (.tmp 26) (.tmp 33) rfl w.heap.size _ m _ rfl HOQ.out wA.heap.size _ (xs.drop (m + 1)) rfl ?src ?nil (by simp; omega) HBQ.out.size ?_))
        case src =>
          have hd := (HF.out _ HBQ.out).2.1.drop (m + 1) (by omega)
          rw [Nat.zero_add] at hd
          exact hd
        case nil => intro l c e; first | cases e | simp [Act.eval] at e
        intro vC wC oC gC
        obtain ⟨⟨aC, cC, rfl⟩, _⟩ := row_form2 oC
        have HST := hid (del_row_end HX.out HE.out HXB.out HLT.out HBQ.out HOQ.out (by omega) oC (by simp) gC)
        have rC := HST.out.1
        have fC := HST.out.2.1
        clear oC gC
        go_wp2
        go_ret
        exact ⟨rfl, _, HST.out.2.2.1, by rw [HDR.out, List.map_append], HST.out.2.2.2⟩
      · skip
        go_wp2_with (first
          | (at_builtin; refine wpList_append_ents _ rfl (.tmp 26) (.tmp 33) rfl w.heap.size _ m _ rfl HOQ.out wA.heap.size _ (xs.drop (m + 1)) rfl ?src ?nil (by simp; omega) HBQ.out.size ?_))
        case src =>
          rw [show xs.drop (m + 1) = [] from List.drop_eq_nil_of_le (by omega)]
          refine ents_nil _ _ _ _ _ ?_ ?_
          · first | rfl | omega
          · first | (unfold maxLen; omega) | exact Nat.zero_le _
        case nil => intro l c e; first | cases e | simp [Act.eval] at e
        intro vC wC oC gC
        obtain ⟨⟨aC, cC, rfl⟩, _⟩ := row_form2 oC
        have HST := hid (del_row_end HX.out HE.out HXB.out HLT.out HBQ.out HOQ.out (by omega) oC (by simp) gC)
        have rC := HST.out.1
        have fC := HST.out.2.1
        clear oC gC
        go_wp2
        go_ret
        exact ⟨rfl, _, HST.out.2.2.1, by rw [HDR.out, List.map_append], HST.out.2.2.2⟩
  | false =>
    have HDR : Hid (delL (xs.map EntV.ent) key = xs.map EntV.ent) := hid (by
      unfold delL
      rw [HR.out]
      simp only [Bool.false_eq_true, if_false]
      exact List.take_append_drop _ _)
    clear hform
    go_enter Try.func33, Try.ntmps33
    go_wp2_with fail
    refine HAT.mono ?_
    clear HAT
    rintro e w0 ⟨rfl, q0, rfl⟩
    have hb0 : Below w.heap.size w (w.drewN q0) := below_drewN _ w q0
    have HB0 := hid hb0
    have HHS := hid (xhas_any xb _ _ _ _ key _ (HF.out _ hb0).1 (HF.out _ hb0).2.1 (HF.out _ hb0).2.2 HM.out)
    clear hb0
    simp only [HR.out] at HHS
    generalize w.drewN q0 = w0 at *
    go_wp2_with fail
    refine HHS.out.mono ?_
    clear HHS
    rintro e w1 ⟨rfl, q1, rfl⟩
    have hb1 : Below w.heap.size w (w0.drewN q1) := HB0.out.trans (below_drewN _ w0 q1)
    have r1 : (w0.drewN q1).cell? ⟨xb, 0, none⟩ = some (.slice a xs.length c) := by rw [cell_of_row _ _ _ _ _ _ (HF.out _ hb1).1]; rfl
    have HB1 := hid hb1
    clear hb1 HB0
    generalize w0.drewN q1 = w1 at *
    have hz1 := HB1.out.size
    go_wp2
    go_ret
    refine ⟨rfl, xs, ?_, HDR.out.symm, Spares.of_new HB1.out⟩
    obtain ⟨⟨sv, k1, k2⟩, k3, k4⟩ := H0.out.new HB1.out
    exact ⟨⟨sv, k1, k2.ents, k2.row.mono (fun i hi => .inl hi), fun x hx => ⟨(k2.all x hx).1.mono (fun i hi => .inl hi), (k2.all x hx).2.mono (fun i hi => .inl hi)⟩, k2.form⟩, .inl k3, fun i hi => by
      rcases hi with hi | hi
      · exact k4 i hi
      · exact hi.2⟩
end Go.Proofs.Ytjfipejfejmlaaa
