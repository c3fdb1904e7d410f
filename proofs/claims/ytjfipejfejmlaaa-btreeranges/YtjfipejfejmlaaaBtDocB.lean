/- Contract of the document's own Put (stage 14). -/
import Derived.Test.YtjfipejfejmlaaaBtDocA
namespace Go.Proofs.Ytjfipejfejmlaaa
open Go.RowKit Go.Shelf
set_option linter.unusedVariables false
set_option linter.unusedSimpArgs false
set_option maxRecDepth 20000

/-- The end of Put and Delete: the new row is laid into the tree. -/
theorem xs_store {S : Nat → Prop} {w W : World} {xb : Nat} {sv' sv : Value} {ys : List EntV} (hx : W.heap[xb]? = some (.cells #[sv] 29 (0, 0))) (hxb : S xb) (hlt : ∀ i, S i → i < w.heap.size) (hb : Below w.heap.size w W) (hr : W.ownsRow w.heap.size 46 2 sv' ys.length (ys.flatMap EntV.two))
    (hs : ∀ y ∈ ys, Says W y.kv y.k ∧ Says W y.vv y.v ∧ InS (ext S w W) y.kv ∧ InS (ext S w W) y.vv) (hu : ∀ n, sv ≠ .int .u8 n) :
    XS (ext S w (W.setCell ⟨xb, 0, none⟩ sv')) (W.setCell ⟨xb, 0, none⟩ sv') xb ys ∧ Spares (fun i => i = xb) w (W.setCell ⟨xb, 0, none⟩ sv') := by
  have hz : (W.setCell ⟨xb, 0, none⟩ sv').heap.size = W.heap.size := by simp [World.setCell]
  have hxw := hlt xb hxb
  have sp : Spares (fun i => i = xb) W (W.setCell ⟨xb, 0, none⟩ sv') := spares_set W ⟨xb, 0, none⟩ sv'
  have hE : EntsS (ext S w W) W sv' ys := entsS_of hr hs (fun i h1 h2 => .inr ⟨h1, h2⟩)
  have hby : Bytes W (W.setCell ⟨xb, 0, none⟩ sv') := ⟨sp.size, fun ad n hc => sp.cell hc (fun e => by
    have e' : ad.block = xb := e
    unfold World.cell? at hc
    rw [e', hx] at hc
    simp only at hc
    split at hc
    · cases hc
    · have : ad.off = 0 := by
        rcases Nat.eq_zero_or_pos ad.off with h | h
        · exact h
        · exfalso
          rw [show (#[sv] : Array Value)[ad.off]? = none from Array.getElem?_eq_none (by simp; omega)] at hc
          cases hc
      rw [this] at hc
      simp at hc
      exact hu n hc)⟩
  refine ⟨⟨⟨sv', heap_setCell_same _ _ _ _ _ _ hx, ?_⟩, .inl hxb, fun i hi => ?_⟩, (Spares.of_new hb).andThen sp (fun i hi => .inl hi)⟩
  · refine ⟨?_, fun g hg => by have := hE.row g hg; unfold ext at *; rw [hz]; exact this, fun y hy => ⟨fun g hg => by have := (hE.all y hy).1 g hg; unfold ext at *; rw [hz]; exact this, fun g hg => by have := (hE.all y hy).2 g hg; unfold ext at *; rw [hz]; exact this⟩, hE.form⟩
    have hr2 := sp.row hr (fun g hg e => by have h1 := (hr.lt g hg).1; have e' : g = xb := e; omega)
    exact (entsS_of (S := fun _ => True) hr2 (fun y hy => ⟨(hs y hy).1.bytes hby, (hs y hy).2.1.bytes hby, fun _ _ => trivial, fun _ _ => trivial⟩) (fun _ _ _ => trivial)).ents
  · rcases hi with hi | hi
    · have := hlt i hi; have := hb.size; rw [hz]; omega
    · exact hi.2

/-- What Put lays into the tree. -/
theorem put_end {S : Nat → Prop} {w W wC : World} {xb m k' n : Nat} {sv vB kv' vv' vC : Value} {xs : List EntV} {key val : List UInt8} (hx : w.heap[xb]? = some (.cells #[sv] 29 (0, 0))) (hE : EntsS S w sv xs) (hxb : S xb) (hlt : ∀ i, S i → i < w.heap.size)
    (hb : Below w.heap.size w W) (hB : W.ownsRow w.heap.size 46 2 vB (m + 1) ((xs.take m).flatMap EntV.two ++ [kv', vv'])) (hk : Copy w.heap.size W kv' key) (hv : Copy w.heap.size W vv' val) (hm : m ≤ xs.length) {L : List Value}
    (hC : wC.ownsRow w.heap.size 46 2 vC n L) (hL : L = ((xs.take m).flatMap EntV.two ++ [kv', vv']) ++ (xs.drop k').flatMap EntV.two) (hg : W.grownBy wC vB.ownBlock) :
    wC.cell? ⟨xb, 0, none⟩ = some sv ∧ wC.frozen? ⟨xb, 0, none⟩ = false ∧ XS (ext S w (wC.setCell ⟨xb, 0, none⟩ vC)) (wC.setCell ⟨xb, 0, none⟩ vC) xb (xs.take m ++ ⟨kv', vv', key, val⟩ :: xs.drop k') ∧
      (xs.take m ++ ⟨kv', vv', key, val⟩ :: xs.drop k').map EntV.ent = (xs.take m).map EntV.ent ++ (key, val) :: (xs.drop k').map EntV.ent ∧ Spares (fun i => i = xb) w (wC.setCell ⟨xb, 0, none⟩ vC) := by
  subst hL
  have hn : n = m + 1 + (xs.drop k').length := by
    have h1 := hC.1
    have h2 := two_length (xs.take m)
    have h3 := two_length (xs.drop k')
    rw [List.length_append, List.length_append, h2, h3, List.length_take, Nat.min_eq_left hm] at h1
    simp only [List.length_cons, List.length_nil] at h1
    omega
  subst hn
  have hlow : ∀ q, vB.ownBlock = some q → w.heap.size ≤ q := fun q hq => (hB.lt q hq).1
  have hbC : Below w.heap.size w wC := hb.grown hg hb.size hlow
  have spC : Spares (fun i => vB.ownBlock = some i) W wC := Spares.of_grown hg (fun k e => e)
  have hkC : Copy w.heap.size wC kv' key := spC.row hk (fun g hg' e => rows_apart hB hk (by decide) g e hg')
  have hvC : Copy w.heap.size wC vv' val := spC.row hv (fun g hg' e => rows_apart hB hv (by decide) g e hg')
  have hxC : wC.heap[xb]? = some (.cells #[sv] 29 (0, 0)) := (hbC.block _ (hlt xb hxb)).trans hx
  have hfm : (xs.take m ++ (⟨kv', vv', key, val⟩ : EntV) :: xs.drop k').flatMap EntV.two = ((xs.take m).flatMap EntV.two ++ [kv', vv']) ++ (xs.drop k').flatMap EntV.two := by simp [EntV.two]
  have hlen : (xs.take m ++ (⟨kv', vv', key, val⟩ : EntV) :: xs.drop k').length = m + 1 + (xs.drop k').length := by simp; omega
  have hst := xs_store (ys := xs.take m ++ ⟨kv', vv', key, val⟩ :: xs.drop k') (sv' := vC) hxC hxb hlt hbC (by rw [hfm, hlen]; exact hC) (fun y hy => by
    have hold : ∀ y ∈ xs, Says wC y.kv y.k ∧ Says wC y.vv y.v ∧ InS (ext S w wC) y.kv ∧ InS (ext S w wC) y.vv := fun y hy => by
      obtain ⟨s1, s2⟩ := (hE.ents.new hbC).says (Nat.le_refl _) y hy
      exact ⟨s1, s2, (hE.all y hy).1.mono (fun i hi => .inl hi), (hE.all y hy).2.mono (fun i hi => .inl hi)⟩
    rcases List.mem_append.1 hy with hy | hy
    · exact hold y (List.mem_of_mem_take hy)
    · rcases List.mem_cons.1 hy with rfl | hy
      · exact ⟨hkC.says, hvC.says, fun g hg' => .inr (hkC.lt g hg'), fun g hg' => .inr (hvC.lt g hg')⟩
      · exact hold y (List.mem_of_mem_drop hy)) (fun n e => by
    obtain ⟨a, c, e', _⟩ := hE.ents
    rw [e'] at e
    cases e)
  exact ⟨by rw [cell_of_row _ _ _ _ _ _ hxC]; rfl, by simp [World.frozen?, hxC], hst.1, by simp [EntV.ent], hst.2⟩

set_option maxHeartbeats 8000000 in
theorem xput_any (S : Nat → Prop) (xb : Nat) (xs : List EntV) (kv vv : Value) (key val : List UInt8) (w : World) (h : XS S w xb xs) (hk : Says w kv key) (hv : Says w vv val) (hlk : key.length ≤ 140737488351232) (hlv : val.length ≤ 140737488351232) (hn : xs.length < 1000000) :
    Calls Try.prog 32 #[.pointer (some ⟨xb, 0, none⟩), kv, vv] w fun e w' => e = .returned (.bool (hitK (xs.map EntV.ent) key)) ∧ ∃ ys, XS (ext S w w') w' xb ys ∧ ys.map EntV.ent = putL (xs.map EntV.ent) (key, val) ∧ Spares (fun i => i = xb) w w' := by
  obtain ⟨⟨sv, hx, hE⟩, hxb, hlt⟩ := h
  obtain ⟨a1, c1, rfl, _⟩ := id hk
  obtain ⟨a2, c2, rfl, _⟩ := id hv
  have HAT := xat_any xb _ _ xs key w hx hE.ents hk
  have hle := atK_le (xs.map EntV.ent) key
  rw [List.length_map] at hle
  have hxbz : xb < w.heap.size := block_lt hx
  obtain ⟨m, hm⟩ : ∃ m, atK (xs.map EntV.ent) key = m := ⟨_, rfl⟩
  rw [hm] at HAT hle
  have HM := hid hm
  have HE := hid hE
  have HX := hid hx
  have HLT := hid hlt
  have HXB := hid hxb
  have HF : Hid (∀ W, Below w.heap.size w W → W.heap[xb]? = some (.cells #[sv] 29 (0, 0)) ∧ Ents W.heap.size W sv xs ∧ Says W (.slice a1 key.length c1) key ∧ Says W (.slice a2 val.length c2) val) := hid (fun W hW => ⟨(hW.block _ hxbz).trans hx, hE.ents.new hW, hk.new hW, hv.new hW⟩)
  have hform := hE.form
  clear hE hx hk hv hlt hxb hm
  rcases hform with rfl | ⟨b, c, rfl⟩
  · have hx0 : xs = [] := by
      obtain ⟨a, c, e, _⟩ := HE.out.ents
      simp only [Value.slice.injEq] at e
      exact List.eq_nil_of_length_eq_zero e.2.1.symm
    subst hx0
    have hm0 : m = 0 := by simpa using hle
    subst hm0
    simp only [show hitK (([] : List EntV).map EntV.ent) key = false from rfl] at *
    go_enter Try.func32, Try.ntmps32
    go_wp2_with fail
    refine HAT.mono ?_
    clear HAT
    rintro e w0 ⟨rfl, q0, rfl⟩
    have hb0 : Below w.heap.size w (w.drewN q0) := below_drewN _ w q0
    have HB0 := hid hb0
    have HHS := hid (xhas_any xb _ _ _ _ key _ (HF.out _ hb0).1 (HF.out _ hb0).2.1 (HF.out _ hb0).2.2.1 HM.out)
    clear hb0
    generalize w.drewN q0 = w0 at *
    go_wp2_with fail
    refine HHS.out.mono ?_
    clear HHS
    rintro e w1 ⟨rfl, q1, rfl⟩
    have hb1 : Below w.heap.size w (w0.drewN q1) := HB0.out.trans (below_drewN _ w0 q1)
    have r1 : (w0.drewN q1).cell? ⟨xb, 0, none⟩ = some (.slice none 0 0) := by rw [cell_of_row _ _ _ _ _ _ (HF.out _ hb1).1]; rfl
    have HT1 := hid ((HF.out _ hb1).2.1)
    have HB1 := hid hb1
    clear hb1 HB0
    generalize w0.drewN q1 = w1 at *
    have hz1 := HB1.out.size
    go_wp2_with (first
      | (at_builtin; refine wpList_append_ents _ rfl (.tmp 17) (.tmp 23) rfl w.heap.size _ 0 [] rfl (World.ownsRow_nil _ _ _ _) _ _ [] rfl HT1.out (fun l c e => by cases e <;> rfl) (by simp <;> omega) hz1 ?_))
    intro vA wA oA gA
    obtain ⟨⟨aA, cA, rfl⟩, _⟩ := row_form2 oA
    have hbA : Below w.heap.size w wA := HB1.out.grown gA hz1 (fun q hq => by cases hq)
    have hzA := hbA.size
    have HBA := hid hbA
    have HOA := hid oA
    have HC1 := copied_any _ key wA (HF.out _ hbA).2.2.1 hlk
    clear oA gA HT1 HB1 hbA r1
    generalize hlm : 0 + ([] : List EntV).length = lm at *
    have hlm' : lm ≤ ([] : List EntV).length := by rw [← hlm]; simp <;> omega
    go_wp2_with fail
    refine HC1.mono ?_
    clear HC1
    rintro e w2 ⟨kv', rfl, k2, hb2⟩
    obtain ⟨ak, ck, rfl⟩ := k2.form
    have HB2 := hid (HBA.out.trans (hb2.mono hzA))
    have HC2 := copied_any _ val w2 (HF.out _ HB2.out).2.2.2 hlv
    go_wp2_with fail
    refine HC2.mono ?_
    clear HC2
    rintro e w3 ⟨vv', rfl, v3, hb3⟩
    obtain ⟨av, cv, rfl⟩ := v3.form
    have hz23 := hb3.size
    have hz2 := hb2.size
    have HB3 := htr HB2 hb3
    have HK3 := hid (k2.new hb3)
    have HV3 := hid v3
    have HO3 := hid ((Spares.of_new (S := fun _ => False) (hb2.trans (hb3.mono hb2.size))).row HOA.out (fun _ _ => id))
    clear hb2 hb3 k2 v3 HBA HB2 HOA
    obtain ⟨i0, hi, hz0, hz1', hz2'⟩ := info_parts Try.infoEntryZ
    go_wp2_with (first
      | (at_builtin; refine wpList_append_own _ rfl (.tmp 25) (.tmp 31) 27 rfl w.heap.size 46 i0 _ 2 48 Try.underlying27 hi hz0 hz1' hz2' rfl (by decide) _ _ _ rfl ((Spares.of_new (S := fun _ => False) ((Below.refl _ _).alloc (Nat.le_refl _) _)).row HO3.out (fun _ _ => id)) ⟨w3.heap.size, 0, none⟩ 1 1 [.slice ak key.length ck, .slice av val.length cv] rfl rfl ?d1 ?d2 ?d3 ?d4 ?d5 ?_))
    case d1 => have := World.news_of_block (World.alloc_heap_new w3 (.cells #[.slice ak key.length ck, .slice av val.length cv] 46)); simpa using this
    case d2 => intro u hu; simp at hu; rcases hu with rfl | rfl <;> rfl
    case d3 => unfold maxLen; omega
    case d4 => omega
    case d5 => simp; omega
    intro vB wB oB gB _
    obtain ⟨⟨aB, cB, rfl⟩, _⟩ := row_form2 oB
    have hlowA : ∀ q, (Value.slice aA 0 cA).ownBlock = some q → w.heap.size ≤ q := fun q hq => (HO3.out.lt q hq).1
    have hz3 := HB3.out.size
    have hbB : Below w.heap.size w wB := (HB3.out.alloc hz3 _).grown gB (by simp; omega) hlowA
    have spB : Spares (fun i => (Value.slice aA 0 cA).ownBlock = some i) w3 wB := (Spares.of_new ((Below.refl _ _).alloc (Nat.le_refl _) _)).andThen (Spares.of_grown (S := fun i => (Value.slice aA 0 cA).ownBlock = some i) gB (fun k e => e)) (fun i hi => .inl hi)
    have HKQ : Hid (Copy w.heap.size wB (.slice ak key.length ck) key) := hid (owns_lower (spB.row HK3.out (fun g hg e => rows_apart HO3.out HK3.out (by decide) g e hg)) (fun g hg => by have h1 := (HK3.out.lt g hg).1; omega))
    have HVQ : Hid (Copy w.heap.size wB (.slice av val.length cv) val) := hid (owns_lower (spB.row HV3.out (fun g hg e => rows_apart HO3.out HV3.out (by decide) g e hg)) (fun g hg => by have h1 := (HV3.out.lt g hg).1; omega))
    have HBQ := hid hbB
    have HOQ := hid oB
    have rB : wB.cell? ⟨xb, 0, none⟩ = some (.slice none 0 0) := by rw [cell_of_row _ _ _ _ _ _ (HF.out _ hbB).1]; rfl
    clear oB gB spB hbB hlowA HB3 HK3 HV3 HO3 hz3
    go_wp2_with (first
      | (at_builtin; refine wpList_append_ents _ rfl (.tmp 37) (.tmp 43) rfl w.heap.size _ 1 _ rfl HOQ.out 0 (.slice none 0 0) [] rfl (ents_nil _ _ _ _ _ rfl (Nat.zero_le _)) (fun l c e => by cases e; rfl) (by simp) HBQ.out.size ?_))
    intro vC wC oC gC
    obtain ⟨⟨aC, cC, rfl⟩, _⟩ := row_form2 oC
    have HST := hid (put_end (xs := []) (m := 0) (k' := 0) HX.out HE.out HXB.out HLT.out HBQ.out (by simpa using HOQ.out) HKQ.out HVQ.out (Nat.le_refl _) oC (by simp) gC)
    have rC := HST.out.1
    have fC := HST.out.2.1
    clear oC gC
    go_wp2
    go_ret
    exact ⟨rfl, _, HST.out.2.2.1, by rw [HST.out.2.2.2.1]; rfl, HST.out.2.2.2.2⟩
  · obtain ⟨_, _, e, hc1, hc2, _⟩ := id HE.out.ents
    simp only [Value.slice.injEq] at e
    obtain ⟨rfl, _, rfl⟩ := e
    unfold maxLen at hc2
    have hmi : (m : Int) ≤ (xs.length : Int) := by omega
    have hmi0 : (0 : Int) ≤ (m : Int) := by omega
    have hmc : (m : Int) ≤ (c : Int) := by omega
    obtain ⟨r, hr⟩ : ∃ r, hitK (xs.map EntV.ent) key = r := ⟨_, rfl⟩
    have HR := hid hr
    rw [hr]
    clear hr
    go_enter Try.func32, Try.ntmps32
    go_wp2_with fail
    refine HAT.mono ?_
    clear HAT
    rintro e w0 ⟨rfl, q0, rfl⟩
    have hb0 : Below w.heap.size w (w.drewN q0) := below_drewN _ w q0
    have HB0 := hid hb0
    have HHS := hid (xhas_any xb _ _ _ _ key _ (HF.out _ hb0).1 (HF.out _ hb0).2.1 (HF.out _ hb0).2.2.1 HM.out)
    clear hb0
    simp only [HR.out] at HHS
    generalize w.drewN q0 = w0 at *
    go_wp2_with fail
    refine HHS.out.mono ?_
    clear HHS
    rintro e w1 ⟨rfl, q1, rfl⟩
    have hb1 : Below w.heap.size w (w0.drewN q1) := HB0.out.trans (below_drewN _ w0 q1)
    have r1 : (w0.drewN q1).cell? ⟨xb, 0, none⟩ = some (.slice (some ⟨b, 0, none⟩) xs.length c) := by rw [cell_of_row _ _ _ _ _ _ (HF.out _ hb1).1]; rfl
    have HT1 := hid ((HF.out _ hb1).2.1.take m hle)
    have HB1 := hid hb1
    clear hb1 HB0
    generalize w0.drewN q1 = w1 at *
    have hz1 := HB1.out.size
    go_wp2_with (first
      | (at_builtin; refine wpList_append_ents _ rfl (.tmp 17) (.tmp 23) rfl w.heap.size _ 0 [] rfl (World.ownsRow_nil _ _ _ _) _ _ (xs.take m) rfl HT1.out (fun l c e => by cases e <;> rfl) (by simp <;> omega) hz1 ?_))
    intro vA wA oA gA
    obtain ⟨⟨aA, cA, rfl⟩, _⟩ := row_form2 oA
    have hbA : Below w.heap.size w wA := HB1.out.grown gA hz1 (fun q hq => by cases hq)
    have hzA := hbA.size
    have HBA := hid hbA
    have HOA := hid oA
    have HC1 := copied_any _ key wA (HF.out _ hbA).2.2.1 hlk
    clear oA gA HT1 HB1 hbA r1
    generalize hlm : 0 + (xs.take m).length = lm at *
    have hlm' : lm ≤ xs.length := by rw [← hlm]; simp <;> omega
    go_wp2_with fail
    refine HC1.mono ?_
    clear HC1
    rintro e w2 ⟨kv', rfl, k2, hb2⟩
    obtain ⟨ak, ck, rfl⟩ := k2.form
    have HB2 := hid (HBA.out.trans (hb2.mono hzA))
    have HC2 := copied_any _ val w2 (HF.out _ HB2.out).2.2.2 hlv
    go_wp2_with fail
    refine HC2.mono ?_
    clear HC2
    rintro e w3 ⟨vv', rfl, v3, hb3⟩
    obtain ⟨av, cv, rfl⟩ := v3.form
    have hz23 := hb3.size
    have hz2 := hb2.size
    have HB3 := htr HB2 hb3
    have HK3 := hid (k2.new hb3)
    have HV3 := hid v3
    have HO3 := hid ((Spares.of_new (S := fun _ => False) (hb2.trans (hb3.mono hb2.size))).row HOA.out (fun _ _ => id))
    clear hb2 hb3 k2 v3 HBA HB2 HOA
    obtain ⟨i0, hi, hz0, hz1', hz2'⟩ := info_parts Try.infoEntryZ
    go_wp2_with (first
      | (at_builtin; refine wpList_append_own _ rfl (.tmp 25) (.tmp 31) 27 rfl w.heap.size 46 i0 _ 2 48 Try.underlying27 hi hz0 hz1' hz2' rfl (by decide) _ _ _ rfl ((Spares.of_new (S := fun _ => False) ((Below.refl _ _).alloc (Nat.le_refl _) _)).row HO3.out (fun _ _ => id)) ⟨w3.heap.size, 0, none⟩ 1 1 [.slice ak key.length ck, .slice av val.length cv] rfl rfl ?d1 ?d2 ?d3 ?d4 ?d5 ?_))
    case d1 => have := World.news_of_block (World.alloc_heap_new w3 (.cells #[.slice ak key.length ck, .slice av val.length cv] 46)); simpa using this
    case d2 => intro u hu; simp at hu; rcases hu with rfl | rfl <;> rfl
    case d3 => unfold maxLen; omega
    case d4 => omega
    case d5 => simp; omega
    intro vB wB oB gB _
    obtain ⟨⟨aB, cB, rfl⟩, _⟩ := row_form2 oB
    have hlowA : ∀ q, (Value.slice aA m cA).ownBlock = some q → w.heap.size ≤ q := fun q hq => (HO3.out.lt q hq).1
    have hz3 := HB3.out.size
    have hbB : Below w.heap.size w wB := (HB3.out.alloc hz3 _).grown gB (by simp; omega) hlowA
    have spB : Spares (fun i => (Value.slice aA m cA).ownBlock = some i) w3 wB := (Spares.of_new ((Below.refl _ _).alloc (Nat.le_refl _) _)).andThen (Spares.of_grown (S := fun i => (Value.slice aA m cA).ownBlock = some i) gB (fun k e => e)) (fun i hi => .inl hi)
    have HKQ : Hid (Copy w.heap.size wB (.slice ak key.length ck) key) := hid (owns_lower (spB.row HK3.out (fun g hg e => rows_apart HO3.out HK3.out (by decide) g e hg)) (fun g hg => by have h1 := (HK3.out.lt g hg).1; omega))
    have HVQ : Hid (Copy w.heap.size wB (.slice av val.length cv) val) := hid (owns_lower (spB.row HV3.out (fun g hg e => rows_apart HO3.out HV3.out (by decide) g e hg)) (fun g hg => by have h1 := (HV3.out.lt g hg).1; omega))
    have HBQ := hid hbB
    have HOQ := hid oB
    have rB : wB.cell? ⟨xb, 0, none⟩ = some (.slice (some ⟨b, 0, none⟩) xs.length c) := by rw [cell_of_row _ _ _ _ _ _ (HF.out _ hbB).1]; rfl
    clear oB gB spB hbB hlowA HB3 HK3 HV3 HO3 hz3
    cases r with
    | true =>
      have hmn : m < xs.length := by
        rcases Nat.lt_or_ge m xs.length with h | h
        · exact h
        · have := hitK_end HM.out h; rw [HR.out] at this; cases this
      have HPL : Hid (putL (xs.map EntV.ent) (key, val) = (xs.take m).map EntV.ent ++ (key, val) :: (xs.drop (m + 1)).map EntV.ent) := hid (by
        unfold putL
        simp only [HM.out, HR.out, if_true]
        rw [List.map_take, List.map_drop])
      have hm1 : ((m : Int) + 1) ≤ (xs.length : Int) := by omega
      have hm2 : (0 : Int) ≤ (m : Int) + 1 := by omega
      have hm3 : ((m : Int) + 1) ≤ (c : Int) := by omega
      by_cases hck : c = (m + 1)
      · have hck' := hck.symm
        clear hck
        subst hck'
        go_wp2_with (first
          | (at_builtin; refine wpList_append_ents _ rfl (.tmp 37) (.tmp 43) rfl w.heap.size _ (m + 1) _ rfl HOQ.out wB.heap.size _ (xs.drop (m + 1)) rfl ?src ?nil (by simp; omega) HBQ.out.size ?_))
        case src =>
          rw [show xs.drop (m + 1) = [] from List.drop_eq_nil_of_le (by omega)]
          refine ents_nil _ _ _ _ _ ?_ ?_
          · first | rfl | omega
          · first | (unfold maxLen; omega) | exact Nat.zero_le _
        case nil => intro l c e; first | cases e | simp [Act.eval] at e
        intro vC wC oC gC
        obtain ⟨⟨aC, cC, rfl⟩, _⟩ := row_form2 oC
        have HST := hid (put_end (k' := m + 1) HX.out HE.out HXB.out HLT.out HBQ.out HOQ.out HKQ.out HVQ.out hle oC (by simp) gC)
        have rC := HST.out.1
        have fC := HST.out.2.1
        clear oC gC
        go_wp2
        go_ret
        exact ⟨rfl, _, HST.out.2.2.1, by rw [HST.out.2.2.2.1, HPL.out], HST.out.2.2.2.2⟩
      · have hck2 : ¬ (c : Int) = (m : Int) + 1 := by omega
        by_cases hin : (m + 1) < xs.length
        · skip
          go_wp2_with (first
            | (at_builtin; refine wpList_append_ents _ rfl (.tmp 37) (.tmp 43) rfl w.heap.size _ (m + 1) _ rfl HOQ.out wB.heap.size _ (xs.drop (m + 1)) rfl ?src ?nil (by simp; omega) HBQ.out.size ?_))
          case src =>
            have hd := (HF.out _ HBQ.out).2.1.drop (m + 1) (by omega)
            rw [Nat.zero_add] at hd
            exact hd
          case nil => intro l c e; first | cases e | simp [Act.eval] at e
          intro vC wC oC gC
          obtain ⟨⟨aC, cC, rfl⟩, _⟩ := row_form2 oC
          have HST := hid (put_end (k' := m + 1) HX.out HE.out HXB.out HLT.out HBQ.out HOQ.out HKQ.out HVQ.out hle oC (by simp) gC)
          have rC := HST.out.1
          have fC := HST.out.2.1
          clear oC gC
          go_wp2
          go_ret
          exact ⟨rfl, _, HST.out.2.2.1, by rw [HST.out.2.2.2.1, HPL.out], HST.out.2.2.2.2⟩
        · skip
          go_wp2_with (first
            | (at_builtin; refine wpList_append_ents _ rfl (.tmp 37) (.tmp 43) rfl w.heap.size _ (m + 1) _ rfl HOQ.out wB.heap.size _ (xs.drop (m + 1)) rfl ?src ?nil (by simp; omega) HBQ.out.size ?_))
          case src =>
            rw [show xs.drop (m + 1) = [] from List.drop_eq_nil_of_le (by omega)]
            refine ents_nil _ _ _ _ _ ?_ ?_
            · first | rfl | omega
            · first | (unfold maxLen; omega) | exact Nat.zero_le _
          case nil => intro l c e; first | cases e | simp [Act.eval] at e
          intro vC wC oC gC
          obtain ⟨⟨aC, cC, rfl⟩, _⟩ := row_form2 oC
          have HST := hid (put_end (k' := m + 1) HX.out HE.out HXB.out HLT.out HBQ.out HOQ.out HKQ.out HVQ.out hle oC (by simp) gC)
          have rC := HST.out.1
          have fC := HST.out.2.1
          clear oC gC
          go_wp2
          go_ret
          exact ⟨rfl, _, HST.out.2.2.1, by rw [HST.out.2.2.2.1, HPL.out], HST.out.2.2.2.2⟩
    | false =>
      have HPL : Hid (putL (xs.map EntV.ent) (key, val) = (xs.take m).map EntV.ent ++ (key, val) :: (xs.drop m).map EntV.ent) := hid (by
        unfold putL
        simp only [HM.out, HR.out, Bool.false_eq_true, if_false]
        rw [List.map_take, List.map_drop])
      by_cases hck : c = m
      · have hck' := hck.symm
        clear hck
        subst hck'
        go_wp2_with (first
          | (at_builtin; refine wpList_append_ents _ rfl (.tmp 37) (.tmp 43) rfl w.heap.size _ (m + 1) _ rfl HOQ.out wB.heap.size _ (xs.drop m) rfl ?src ?nil (by simp; omega) HBQ.out.size ?_))
        case src =>
          rw [show xs.drop m = [] from List.drop_eq_nil_of_le (by omega)]
          refine ents_nil _ _ _ _ _ ?_ ?_
          · first | rfl | omega
          · first | (unfold maxLen; omega) | exact Nat.zero_le _
        case nil => intro l c e; first | cases e | simp [Act.eval] at e
        intro vC wC oC gC
        obtain ⟨⟨aC, cC, rfl⟩, _⟩ := row_form2 oC
        have HST := hid (put_end (k' := m) HX.out HE.out HXB.out HLT.out HBQ.out HOQ.out HKQ.out HVQ.out hle oC (by simp) gC)
        have rC := HST.out.1
        have fC := HST.out.2.1
        clear oC gC
        go_wp2
        go_ret
        exact ⟨rfl, _, HST.out.2.2.1, by rw [HST.out.2.2.2.1, HPL.out], HST.out.2.2.2.2⟩
      · have hck2 : ¬ (c : Int) = (m : Int) := by omega
        by_cases hin : m < xs.length
        · skip
          go_wp2_with (first
            | (at_builtin; refine wpList_append_ents _ rfl (.tmp 37) (.tmp 43) rfl w.heap.size _ (m + 1) _ rfl HOQ.out wB.heap.size _ (xs.drop m) rfl ?src ?nil (by simp; omega) HBQ.out.size ?_))
          case src =>
            have hd := (HF.out _ HBQ.out).2.1.drop m (by omega)
            rw [Nat.zero_add] at hd
            exact hd
          case nil => intro l c e; first | cases e | simp [Act.eval] at e
          intro vC wC oC gC
          obtain ⟨⟨aC, cC, rfl⟩, _⟩ := row_form2 oC
          have HST := hid (put_end (k' := m) HX.out HE.out HXB.out HLT.out HBQ.out HOQ.out HKQ.out HVQ.out hle oC (by simp) gC)
          have rC := HST.out.1
          have fC := HST.out.2.1
          clear oC gC
          go_wp2
          go_ret
          exact ⟨rfl, _, HST.out.2.2.1, by rw [HST.out.2.2.2.1, HPL.out], HST.out.2.2.2.2⟩
        · skip
          go_wp2_with (first
            | (at_builtin; refine wpList_append_ents _ rfl (.tmp 37) (.tmp 43) rfl w.heap.size _ (m + 1) _ rfl HOQ.out wB.heap.size _ (xs.drop m) rfl ?src ?nil (by simp; omega) HBQ.out.size ?_))
          case src =>
            rw [show xs.drop m = [] from List.drop_eq_nil_of_le (by omega)]
            refine ents_nil _ _ _ _ _ ?_ ?_
            · first | rfl | omega
            · first | (unfold maxLen; omega) | exact Nat.zero_le _
          case nil => intro l c e; first | cases e | simp [Act.eval] at e
          intro vC wC oC gC
          obtain ⟨⟨aC, cC, rfl⟩, _⟩ := row_form2 oC
          have HST := hid (put_end (k' := m) HX.out HE.out HXB.out HLT.out HBQ.out HOQ.out HKQ.out HVQ.out hle oC (by simp) gC)
          have rC := HST.out.1
          have fC := HST.out.2.1
          clear oC gC
          go_wp2
          go_ret
          exact ⟨rfl, _, HST.out.2.2.1, by rw [HST.out.2.2.2.1, HPL.out], HST.out.2.2.2.2⟩
end Go.Proofs.Ytjfipejfejmlaaa
