/- Contracts of the document's own Put (too long), Get, Delete. -/
import Derived.Test.YthkeofinamedfaaDoorRef4F
namespace Go.Proofs.YthkeofinamedfaaDoor
open Go.RowKit Go.Shelf
set_option linter.unusedVariables false
set_option linter.unusedSimpArgs false
set_option maxRecDepth 20000

theorem look_some {T : Option Tri} (hT : Tri.WFO T) {e : Ent} (he : e ∈ Tri.entsO T) : look T e.1 = some e.2 := by
  cases T with
  | none => cases he
  | some t =>
    have := Tri.near_of_mem t hT e he
    simp [look, this]

/-- A key's value stands where the key would. -/
theorem look_at {T : Option Tri} (hT : Tri.WFO T) (key : List UInt8) : (∃ e, (Tri.entsO T)[atK (Tri.entsO T) key]? = some e ∧ e.1 = key ∧ look T key = some e.2) ∨ ((∀ e, (Tri.entsO T)[atK (Tri.entsO T) key]? = some e → e.1 ≠ key) ∧ look T key = none) := by
  have hr := risesO hT
  have hlt := atK_lt (Tri.entsO T) key
  have hat := atK_at (Tri.entsO T) key
  by_cases h : ∃ e, (Tri.entsO T)[atK (Tri.entsO T) key]? = some e ∧ e.1 = key
  · obtain ⟨e, h1, rfl⟩ := h
    exact .inl ⟨e, h1, rfl, look_some hT (List.mem_of_getElem? h1)⟩
  · refine .inr ⟨fun e h1 h2 => h ⟨e, h1, h2⟩, ?_⟩
    have hno : ∀ f ∈ Tri.entsO T, f.1 ≠ key := fun f hf e' => by
      obtain ⟨j, hj⟩ := List.getElem?_of_mem hf
      rcases Nat.lt_trichotomy j (atK (Tri.entsO T) key) with h1 | h1 | h1
      · have := hlt j f hj h1
        rw [e', less_irrefl] at this
        cases this
      · rw [h1] at hj
        exact h ⟨f, hj, e'⟩
      · have hjl := (List.getElem?_eq_some_iff.1 hj).1
        obtain ⟨e, he⟩ : ∃ e, (Tri.entsO T)[atK (Tri.entsO T) key]? = some e := ⟨_, List.getElem?_eq_getElem (by omega)⟩
        have h2 := hat e he
        have h3 : e.1 ≠ key := fun h3 => h ⟨e, he, h3⟩
        have h4 := less_total e.1 key h3
        rw [h2] at h4
        have h5 : Op.bytesLess key e.1 = true := by simpa using h4.symm
        obtain ⟨hel, hee⟩ := List.getElem?_eq_some_iff.1 he
        have h6 := (List.pairwise_iff_getElem.1 hr) _ j hel hjl h1
        rw [hee, (List.getElem?_eq_some_iff.1 hj).2, e'] at h6
        have := less_trans _ _ _ h5 h6
        rw [less_irrefl] at this
        cases this
    cases T with
    | none => rfl
    | some t =>
      simp only [look]
      rw [if_neg (hno _ (Tri.near_mem t key))]

theorem drop_row {T : Option Tri} (hT : Tri.WFO T) {key : List UInt8} {e : Ent} (h : (Tri.entsO T)[atK (Tri.entsO T) key]? = some e) (hk : e.1 = key) :
    Tri.entsO (dropT T key) = (Tri.entsO T).take (atK (Tri.entsO T) key) ++ (Tri.entsO T).drop (atK (Tri.entsO T) key + 1) := by
  subst hk
  have hm := List.mem_of_getElem? h
  have hr := risesO hT
  cases T with
  | none => cases hm
  | some t =>
    have hn : (t.near e.1).1 = e.1 := by rw [Tri.near_of_mem t hT e hm]
    simp only [dropT, if_pos hn]
    obtain ⟨c1, c2, c3⟩ := Tri.cut_spec t hT e.1 hn
    generalize atK (Tri.entsO (some t)) e.1 = k at *
    obtain ⟨hl, he⟩ := List.getElem?_eq_some_iff.1 h
    have hsub : ((Tri.entsO (some t)).take k ++ (Tri.entsO (some t)).drop (k + 1)).Sublist (Tri.entsO (some t)) := by
      conv => rhs; rw [← List.take_append_drop k (Tri.entsO (some t)), List.drop_eq_getElem_cons hl]
      exact (List.Sublist.refl _).append (List.sublist_cons_self _ _)
    refine Tri.Rises.ext (risesO c2) (hr.sublist hsub) fun f => ?_
    rw [c1]
    have hsp : Tri.entsO (some t) = (Tri.entsO (some t)).take k ++ e :: (Tri.entsO (some t)).drop (k + 1) := by
      conv => lhs; rw [← List.take_append_drop k (Tri.entsO (some t)), List.drop_eq_getElem_cons hl, he]
    have hmem : f ∈ t.ents ↔ f ∈ (Tri.entsO (some t)).take k ∨ f = e ∨ f ∈ (Tri.entsO (some t)).drop (k + 1) := by
      show f ∈ Tri.entsO (some t) ↔ _
      conv => lhs; rw [hsp]
      simp
    rw [hsp] at hr
    obtain ⟨r1, r2, r3⟩ := List.pairwise_append.1 hr
    rw [hmem, List.mem_append]
    constructor
    · rintro ⟨h1 | h1 | h1, hne⟩
      · exact .inl h1
      · exact absurd (by rw [h1]) hne
      · exact .inr h1
    · rintro (h1 | h1)
      · exact ⟨.inl h1, less_ne (r3 f h1 e (by simp))⟩
      · exact ⟨.inr (.inr h1), (less_ne ((List.pairwise_cons.1 r2).1 f h1)).symm⟩

set_option maxHeartbeats 1000000 in
theorem xlong_any (xb : Nat) (kv vv : Value) (key val : List UInt8) (w : World) (hk : Says w kv key) (hv : Says w vv val) (hl : ¬ Tri.short (key, val)) :
    Calls Tryd.prog 30 #[.pointer (some ⟨xb, 0, none⟩), kv, vv] w fun e w' => e = .returned (.int .i64 2) ∧ w' = w := by
  have l1 := hk.len
  have l2 := hv.len
  obtain ⟨a1, c1, rfl, _⟩ := id hk
  obtain ⟨a2, c2, rfl, _⟩ := id hv
  unfold maxLen at l1 l2
  unfold Tri.short at hl
  simp only at hl
  by_cases h1 : 120 < key.length
  · have h1' : (120 : Int) < (key.length : Int) := by omega
    go_enter Tryd.func30, Tryd.ntmps30
    go_wp2
    go_ret
    exact ⟨rfl, rfl⟩
  · have h1' : (key.length : Int) ≤ 120 := by omega
    have h2' : (1200 : Int) < (val.length : Int) := by omega
    go_enter Tryd.func30, Tryd.ntmps30
    go_wp2
    go_ret
    exact ⟨rfl, rfl⟩

set_option maxHeartbeats 8000000 in
theorem xget_any (S : Nat → Prop) (xb : Nat) (xs : List EntV) (T : Option Tri) (kv : Value) (key : List UInt8) (w : World) (h : XS S w xb xs) (hT : Tri.WFO T) (hx' : xs.map EntV.ent = Tri.entsO T) (hk : Says w kv key) (hn : xs.length < 1000000) :
    Calls Tryd.prog 32 #[.pointer (some ⟨xb, 0, none⟩), kv] w fun e w' => ∃ v', e = .returned (.tuple #[v', .bool (look T key).isSome]) ∧ Copy w.heap.size w' v' ((look T key).getD []) ∧ Below w.heap.size w w' := by
  obtain ⟨⟨sv, hx, hE⟩, hxb, hlt⟩ := h
  obtain ⟨a1, c1, rfl, _⟩ := id hk
  obtain ⟨a, c, rfl, hc1, hc2, _⟩ := id hE.ents
  unfold maxLen at hc2
  have HAT := xat_any xb _ _ xs key w hx hE.ents hk
  have hle := atK_le (xs.map EntV.ent) key
  have hla := look_at hT key
  rw [hx'] at HAT hle
  rw [← hx', List.length_map, hx'] at hle
  obtain ⟨m, hm⟩ : ∃ m, atK (Tri.entsO T) key = m := ⟨_, rfl⟩
  rw [hm] at HAT hle hla
  have hxbz : xb < w.heap.size := block_lt hx
  have HF : Hid (∀ W, Below w.heap.size w W → W.cell? ⟨xb, 0, none⟩ = some (.slice a xs.length c) ∧ Ents W.heap.size W (.slice a xs.length c) xs ∧ Says W (.slice a1 key.length c1) key) := hid (fun W hW => ⟨by rw [cell_of_row _ _ _ _ _ _ ((hW.block _ hxbz).trans hx)]; rfl, hE.ents.new hW, hk.new hW⟩)
  have HX' := hid hx'
  clear hE hx hk hlt hxb hm hx'
  by_cases hmn : m < xs.length
  · obtain ⟨b, off, la, lc, ua, uc, lb, ub, rfl, hb', hy, d0, d1, t1, t2⟩ := (HF.out w (Below.refl _ _)).2.1.at m hmn
    have hye := ent_at HX'.out hy
    have hmi : (m : Int) < (xs.length : Int) := by omega
    have hmi0 : (0 : Int) ≤ (m : Int) := by omega
    have hmd : ((m : Int) == (xs.length : Int)) = false := by rw [beq_eq_false_iff_ne]; omega
    have hmd2 : ¬ (m : Int) = (xs.length : Int) := by omega
    have hmd3 : ¬ m = xs.length := by omega
    by_cases hkk : lb = key
    · have hlk : look T key = some ub := by
        rcases hla with ⟨e, h1, h2, h3⟩ | ⟨h1, _⟩
        · rw [hye] at h1; cases h1; exact h3
        · exact absurd hkk (h1 _ hye)
      rw [hlk]
      have hubl : ub.length ≤ 70368744177664 := by have := (shortO hT _ (List.mem_of_getElem? hye)).2; simp at this; omega
      go_enter Tryd.func32, Tryd.ntmps32
      go_wp2_with fail
      refine HAT.mono ?_
      clear HAT
      rintro e w1 ⟨rfl, q1, rfl⟩
      have hb1 : Below w.heap.size w (w.drewN q1) := below_drewN _ w q1
      have e1 := fun nq => str4 ((t1.below hb1).below (below_drewN _ (w.drewN q1) nq))
      have e2 := fun nq => str4 ((HF.out _ hb1).2.2.new (below_drewN _ (w.drewN q1) nq))
      simp only [show str8 lb = str8 key by rw [hkk]] at e1
      have r1 := (HF.out _ hb1).1
      have r2 : (w.drewN q1).cell? ⟨b, off + m * 2, none⟩ = some (.slice la lb.length lc) := d0
      have r3 : (w.drewN q1).cell? ⟨b, off + m * 2 + 1, none⟩ = some (.slice ua ub.length uc) := d1
      have HB1 := hid hb1
      have HU := hid (Says.new t2 hb1)
      clear hb1 hy hye hla hkk t1 t2 hlk
      generalize w.drewN q1 = w1 at *
      go_wp2_with fail
      go_quiet (fail)
      have HB2 := hid (HB1.out.trans (below_drewN _ w1 nq))
      have HC := copied_any _ ub (w1.drewN nq) (HU.out.new (below_drewN _ w1 nq)) hubl
      have s1 : (w1.drewN nq).cell? ⟨xb, 0, none⟩ = _ := r1
      have s3 : (w1.drewN nq).cell? ⟨b, off + m * 2 + 1, none⟩ = _ := r3
      clear e1 e2 r1 r2 r3 HB1
      generalize w1.drewN nq = w2 at *
      go_wp2_with (go_at_call 57; refine HC.mono ?_; clear HC; rintro e w3 ⟨v3, rfl, k3, hb3⟩)
      go_ret2
      exact ⟨_, rfl, owns_lower k3 (fun g hg => by have h1 := (k3.lt g hg).1; have h2 := HB2.out.size; omega), HB2.out.trans (hb3.mono HB2.out.size)⟩
    · have hlk : look T key = none := by
        rcases hla with ⟨e, h1, h2, h3⟩ | ⟨h1, h2⟩
        · rw [hye] at h1; cases h1; exact absurd h2 hkk
        · exact h2
      rw [hlk]
      go_enter Tryd.func32, Tryd.ntmps32
      go_wp2_with fail
      refine HAT.mono ?_
      clear HAT
      rintro e w1 ⟨rfl, q1, rfl⟩
      have hb1 : Below w.heap.size w (w.drewN q1) := below_drewN _ w q1
      have e1 := fun nq => str4 ((t1.below hb1).below (below_drewN _ (w.drewN q1) nq))
      have e2 := fun nq => str4 ((HF.out _ hb1).2.2.new (below_drewN _ (w.drewN q1) nq))
      have hne : ¬ (str8 lb).toList = (str8 key).toList := by rw [str8_toList, str8_toList]; exact hkk
      have r1 := (HF.out _ hb1).1
      have r2 : (w.drewN q1).cell? ⟨b, off + m * 2, none⟩ = some (.slice la lb.length lc) := d0
      have HB1 := hid hb1
      clear hb1 hy hye hla hkk t1 t2 hlk
      generalize str8 lb = S1 at *
      generalize str8 key = S2 at *
      have hne1 : (S1.toList == S2.toList) = false := by simpa using hne
      have hne2 : decide (S1.toList = S2.toList) = false := by simpa using hne
      generalize w.drewN q1 = w1 at *
      go_wp2_with fail
      go_quiet (fail)
      have HB2 := hid (HB1.out.trans (below_drewN _ w1 nq))
      go_wp2
      go_ret2
      exact ⟨_, rfl, World.ownsRow_nil _ _ _ _, HB2.out⟩
  · have hmn' : m = xs.length := by omega
    have hlk : look T key = none := by
      rcases hla with ⟨e, h1, h2, h3⟩ | ⟨h1, h2⟩
      · rw [← HX'.out, List.getElem?_eq_none (by simp; omega)] at h1; cases h1
      · exact h2
    rw [hlk]
    have hmd : ((m : Int) == (xs.length : Int)) = true := by rw [beq_iff_eq]; omega
    go_enter Tryd.func32, Tryd.ntmps32
    go_wp2_with fail
    refine HAT.mono ?_
    clear HAT
    rintro e w1 ⟨rfl, q1, rfl⟩
    have hb1 : Below w.heap.size w (w.drewN q1) := below_drewN _ w q1
    have r1 := (HF.out _ hb1).1
    have HB1 := hid hb1
    clear hb1 hla hlk
    subst hmn'
    generalize w.drewN q1 = w1 at *
    go_wp2_with fail
    go_quiet (fail)
    have HB2 := hid (HB1.out.trans (below_drewN _ w1 nq))
    go_wp2
    go_ret2
    exact ⟨_, rfl, World.ownsRow_nil _ _ _ _, HB2.out⟩
end Go.Proofs.YthkeofinamedfaaDoor
