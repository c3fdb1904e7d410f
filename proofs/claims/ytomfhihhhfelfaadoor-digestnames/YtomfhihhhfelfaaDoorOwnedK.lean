/- Contract of the law's helper Owned, with what it leaves alone: blocks that are none of the slices' own. -/
import Derived.Test.YtomfhihhhfelfaaDoorOwned
namespace Go.Proofs.YtomfhihhhfelfaaDoor
open Go.RowKit
set_option linter.unusedVariables false

/-- What lies below B, and every block that is none of the slices' own, is as it was. -/
def Keeps (B : Nat) (vs : List Value) (w w' : World) : Prop := Below B w w' ∧ ∀ k, (∀ v ∈ vs, v.ownBlock ≠ some k) → w'.heap[k]? = w.heap[k]?

theorem Keeps.refl (B : Nat) (vs : List Value) (w : World) : Keeps B vs w w := ⟨Below.refl _ _, fun _ _ => rfl⟩

theorem Keeps.drewN {B : Nat} {vs : List Value} {w w' : World} (h : Keeps B vs w w') (n : Nat) : Keeps B vs w (w'.drewN n) := ⟨below_drewN h.1 n, fun k hk => h.2 k hk⟩

theorem Keeps.setCell {B : Nat} {vs : List Value} {w w' : World} (h : Keeps B vs w w') {g k l c : Nat} (hB : B ≤ g) (hk : vs[k]? = some (.slice (some ⟨g, 0, none⟩) l c)) (q : Nat) (u : Value) : Keeps B vs w (w'.setCell ⟨g, q, none⟩ u) := by
  refine ⟨h.1.setCell hB u, fun j hj => (heap_setCell_other w' ⟨g, q, none⟩ j u (fun e => ?_)).trans (h.2 j hj)⟩
  exact hj _ (List.mem_of_getElem? hk) (by show some g = some j; rw [e])

set_option maxHeartbeats 4000000 in
theorem owned_keep (B gr cc : Nat) (vs : List Value) (w : World) (hB : B ≤ w.heap.size) (hrows : w.ownsRow B 22 1 (.slice (some ⟨gr, 0, none⟩) vs.length cc) vs.length vs) (hm : Marked B w vs 0) (ha : Apart vs) (hlen : vs.length ≤ 100000) :
    Calls Tryd.prog 18 #[.slice (some ⟨gr, 0, none⟩) vs.length cc] w fun e w' => e = .returned (.bool true) ∧ Keeps B vs w w' := by
  have HA := hid ha
  clear ha
  go_enter Tryd.func18, Tryd.ntmps18
  go_wp2_with fail
  go_loopw [3] (fun i wr => ∃ k : Nat, k ≤ vs.length ∧ i = .int .i64 k ∧ wr.ownsRow B 22 1 (.slice (some ⟨gr, 0, none⟩) vs.length cc) vs.length vs ∧ Hid (Marked B wr vs k) ∧ Keeps B vs w wr) (fun i _ => vs.length - (intOf i).toNat)
  case atStart => exact ⟨0, Nat.zero_le _, rfl, hrows, hm, Keeps.refl _ _ _⟩
  case round =>
    obtain ⟨k, hk, rfl, hro, HM, hbel⟩ := hrel
    by_cases hlt : k < vs.length
    · have hvk : vs[k]? = some vs[k] := List.getElem?_eq_getElem hlt
      have hcell : wr.cell? ⟨gr, k, none⟩ = some vs[k] := by rw [hro.cellAt k (by omega)]; exact hvk
      obtain ⟨xs, hfull, _⟩ := HM.out k vs[k] hvk
      have hki : (k : Int) < (vs.length : Int) := by omega
      have hk0 : (0 : Int) ≤ (k : Int) := by omega
      rcases hfull with ⟨hnil, hxs⟩ | ⟨g, l, c, hv, ho⟩
      · rw [hnil] at hcell
        have HN := hid hnil
        clear hnil hvk
        go_wp2_with fail
        go_quiet (fail)
        go_wp2_with fail
        go_rounds 1
        go_roundw
        case rel => exact ⟨k + 1, by omega, by go_num, hro, marked_nil HM.out HN.out, hbel.drewN _⟩
        case measure => simp [intOf]; omega
      · rw [hv] at hcell
        have HV := hid (hvk.trans (congrArg some hv))
        have HO := hid ho
        clear hv hvk ho
        have hcm : c ≤ 9223372036854775807 := by
          rcases HO.out.2 with ⟨e, _⟩ | ⟨_, cap, _, e, _, _, _, h, _⟩
          · simp at e
          · simp only [Value.slice.injEq] at e
            unfold maxLen at h
            omega
        go_wp2_with fail
        go_quiet (fail)
        go_wp2_with fail
        go_loopw [5] (fun i wx => ∃ (q : Nat) (ys : List Value), q ≤ c ∧ i = .int .i64 q ∧ wx.ownsRow B 22 1 (.slice (some ⟨gr, 0, none⟩) vs.length cc) vs.length vs ∧ wx.ownsRow B 5 1 (.slice (some ⟨g, 0, none⟩) c c) c ys ∧ Hid (∀ p, p < q → ys[p]? = some (mark k)) ∧ Hid (∀ (j : Nat) (v : Value), vs[j]? = some v → j ≠ k → ∃ xs, Full B wx v xs ∧ (j < k → ∀ u ∈ xs, u = mark j)) ∧ Keeps B vs w wx) (fun i _ => c - (intOf i).toNat)
        case atStart => exact ⟨0, xs, Nat.zero_le _, rfl, hro, HO.out, fun p hp => by omega, fun j v hv hj => HM.out j v hv, hbel.drewN _⟩
        case round =>
          obtain ⟨q, ys, hq, rfl, hro2, hoy, HY, HJ, hbel2⟩ := hrel
          by_cases hqc : q < c
          · have hl : ys.length = c := by have := hoy.1; omega
            have hcy : wr.cell? ⟨g, q, none⟩ = some (ys[q]'(by omega)) := by rw [hoy.cellAt q (by omega)]; exact List.getElem?_eq_getElem _
            have hfy := hoy.frozenAt q
            go_wp2_with fail
            have hne := own_ne hro2 hoy
            have hst := (hoy.stored q (mark k)).1
            go_roundw
            case rel =>
              refine ⟨q + 1, ys.set q (mark k), by omega, by go_num, ownsRow_setCell_other hro2 (by simp [Value.ownBlock]; exact hne) _, hst, ?_, marked_store HJ.out HA.out HV.out _, hbel2.setCell (hoy.lt g rfl).1 HV.out q _⟩
              intro p hp
              rw [List.getElem?_set]
              by_cases hpq : q = p
              · rw [if_pos hpq, if_pos (by omega)]
              · rw [if_neg hpq]; exact HY.out p (by omega)
            case measure => simp [intOf]; omega
          · have hqe : q = c := by omega
            have hall : ∀ u ∈ ys, u = mark k := by
              intro u hu
              obtain ⟨p, hp, rfl⟩ := List.getElem_of_mem hu
              have := HY.out p (by have := hoy.1; omega)
              rw [List.getElem?_eq_getElem hp] at this
              exact Option.some.inj this
            have hmk : Marked B wr vs (k + 1) := by
              intro j v hv
              by_cases hj : j = k
              · subst hj
                rw [HV.out] at hv
                cases hv
                exact ⟨ys, .inr ⟨g, l, c, rfl, hoy⟩, fun _ => hall⟩
              · obtain ⟨zs, hf, hm⟩ := HJ.out j v hv hj
                exact ⟨zs, hf, fun h' => hm (by omega)⟩
            have HMK := hid hmk
            clear hall hmk
            go_wp2
            go_roundw
            case rel => exact ⟨k + 1, by omega, by go_num, hro2, HMK, hbel2⟩
            case measure => simp [intOf]; omega
    · have hkl : k = vs.length := by omega
      subst hkl
      go_wp2_with fail
      go_loopw [6] (fun i wx => ∃ q : Nat, q ≤ vs.length ∧ i = .int .i64 q ∧ wx.ownsRow B 22 1 (.slice (some ⟨gr, 0, none⟩) vs.length cc) vs.length vs ∧ Hid (Marked B wx vs vs.length) ∧ Keeps B vs w wx) (fun i _ => vs.length - (intOf i).toNat)
      case atStart => exact ⟨0, Nat.zero_le _, rfl, hro, HM, hbel⟩
      case round =>
        obtain ⟨q, hq, rfl, hro2, HM2, hbel2⟩ := hrel
        by_cases hlt2 : q < vs.length
        · have hvk : vs[q]? = some vs[q] := List.getElem?_eq_getElem hlt2
          have hcell : wr.cell? ⟨gr, q, none⟩ = some vs[q] := by rw [hro2.cellAt q (by omega)]; exact hvk
          obtain ⟨xs, hfull, hmk⟩ := HM2.out q vs[q] hvk
          have HMK := hid (hmk hlt2)
          clear hmk
          have hki : (q : Int) < (vs.length : Int) := by omega
          have hk0 : (0 : Int) ≤ (q : Int) := by omega
          rcases hfull with ⟨hnil, hxs⟩ | ⟨g, l, c, hv, ho⟩
          · rw [hnil] at hcell
            clear hnil hvk
            go_wp2_with fail
            go_quiet (fail)
            go_wp2_with fail
            go_rounds 1
            go_roundw
            case rel => exact ⟨q + 1, by omega, by go_num, hro2, HM2, hbel2.drewN _⟩
            case measure => simp [intOf]; omega
          · rw [hv] at hcell
            have HO := hid ho
            clear hv hvk ho
            have hcm : c ≤ 9223372036854775807 := by
              rcases HO.out.2 with ⟨e, _⟩ | ⟨_, cap, _, e, _, _, _, h, _⟩
              · simp at e
              · simp only [Value.slice.injEq] at e
                unfold maxLen at h
                omega
            go_wp2_with fail
            go_quiet (fail)
            go_wp2_with fail
            go_loop [8] (fun i => ∃ p : Nat, p ≤ c ∧ i = .int .i64 p) (fun i => c - (intOf i).toNat)
            case atStart => exact ⟨0, Nat.zero_le _, rfl⟩
            case round =>
              obtain ⟨p, hp, rfl⟩ := hrel
              by_cases hpc : p < c
              · have hl : xs.length = c := by have := HO.out.1; omega
                have hcx : wr.cell? ⟨g, p, none⟩ = some (.int .u8 (((q : Int) + 1) % 256)) := by
                  rw [HO.out.cellAt p (by omega), List.getElem?_eq_getElem (by omega)]
                  exact congrArg some (HMK.out _ (List.getElem_mem _))
                go_wp2
                go_round
                case rel => exact ⟨p + 1, by omega, by go_num⟩
                case measure => simp [intOf]; omega
              · go_wp2
                go_roundw
                case rel => exact ⟨q + 1, by omega, by go_num, hro2, HM2, hbel2.drewN _⟩
                case measure => simp [intOf]; omega
        · go_wp2
          go_ret
          exact ⟨rfl, hbel2⟩
end Go.Proofs.YtomfhihhhfelfaaDoor
