/- Contract of the law's helper Owned: where all slices lie in blocks of their own it answers true. -/
import Derived.Test.YthjgbcbgkafgjaaDoorBase
import Derived.Deep.QuietTactic
import Derived.BigQuiet
namespace Go.Proofs.YthjgbcbgkafgjaaDoor
open Go.RowKit
set_option linter.unusedVariables false
set_option maxRecDepth 20000

/-- A slice of bytes whose whole room the call owns, and what stands in it. -/
def Full (B : Nat) (w : World) (v : Value) (xs : List Value) : Prop :=
  (v = .slice none 0 0 ∧ xs = []) ∨ ∃ g l c, v = .slice (some ⟨g, 0, none⟩) l c ∧ w.ownsRow B 5 1 (.slice (some ⟨g, 0, none⟩) c c) c xs

theorem Full.kept {B : Nat} {w : World} {v : Value} {xs : List Value} (h : Full B w v xs) {g : Nat} (hne : v.ownBlock ≠ some g) (k : Nat) (u : Value) : Full B (w.setCell ⟨g, k, none⟩ u) v xs := by
  rcases h with h | ⟨g', l, c, rfl, ho⟩
  · exact .inl h
  · exact .inr ⟨g', l, c, rfl, ownsRow_setCell_other ho (by simpa [Value.ownBlock] using hne) u⟩

theorem full_of_owns {w : World} {B n : Nat} {v : Value} {xs : List Value} (h : w.ownsRow B 5 1 v n xs) : ∃ ys, Full B w v ys := by
  rcases h.2 with ⟨rfl, _⟩ | ⟨g, cap, cur, rfl, hB, hg, hnc, hcm, hcs, _⟩
  · exact ⟨[], .inl ⟨rfl, rfl⟩⟩
  · exact ⟨cur.toList, .inr ⟨g, n, cap, rfl, by simpa using hcs, .inr ⟨g, cap, cur, rfl, hB, hg, Nat.le_refl _, hcm, hcs, List.take_of_length_le (by rw [Array.length_toList, hcs]; omega)⟩⟩⟩

theorem Full.below {B : Nat} {w w' : World} {v : Value} {xs : List Value} (h : Full B w v xs) (hb : Below w.heap.size w w') : Full B w' v xs := by
  rcases h with h | ⟨g', l, c, rfl, h1, h2⟩
  · exact .inl h
  · refine .inr ⟨g', l, c, rfl, h1, ?_⟩
    rcases h2 with hn | ⟨g, cap, cur, hv, hB, hg, r⟩
    · exact .inl hn
    · exact .inr ⟨g, cap, cur, hv, hB, by rw [hb.block g (Array.getElem?_eq_some_iff.1 hg).1]; exact hg, r⟩

theorem Full.mono {B B' : Nat} {w : World} {v : Value} {xs : List Value} (h : Full B w v xs) (hB : B' ≤ B) : Full B' w v xs := by
  rcases h with h | ⟨g', l, c, rfl, h1, h2⟩
  · exact .inl h
  · refine .inr ⟨g', l, c, rfl, h1, ?_⟩
    rcases h2 with hn | ⟨g, cap, cur, hv, hg0, r⟩
    · exact .inl hn
    · exact .inr ⟨g, cap, cur, hv, by omega, r⟩

/-- The mark of the i-th. -/
def mark (i : Nat) : Value := .int .u8 (((i : Int) + 1) % 256)

/-- All slices, each with its room; those ahead of i are marked whole. -/
def Marked (B : Nat) (w : World) (vs : List Value) (i : Nat) : Prop :=
  ∀ (j : Nat) (v : Value), vs[j]? = some v → ∃ xs, Full B w v xs ∧ (j < i → ∀ u ∈ xs, u = mark j)

def Apart (vs : List Value) : Prop := ∀ (i j : Nat) (u v : Value) (g : Nat), vs[i]? = some u → vs[j]? = some v → i ≠ j → u.ownBlock = some g → v.ownBlock ≠ some g

theorem marked_store {B : Nat} {w : World} {vs : List Value} {i k g l c : Nat} (h : ∀ (j : Nat) (v : Value), vs[j]? = some v → j ≠ i → ∃ xs, Full B w v xs ∧ (j < i → ∀ u ∈ xs, u = mark j)) (ha : Apart vs)
    (hi : vs[i]? = some (.slice (some ⟨g, 0, none⟩) l c)) (u : Value) : ∀ (j : Nat) (v : Value), vs[j]? = some v → j ≠ i → ∃ xs, Full B (w.setCell ⟨g, k, none⟩ u) v xs ∧ (j < i → ∀ u ∈ xs, u = mark j) := by
  intro j v hv hj
  obtain ⟨ys, hf, hm⟩ := h j v hv hj
  exact ⟨ys, hf.kept (ha i j _ v g hi hv (fun e => hj e.symm) rfl) k u, hm⟩

/-- Rows of unlike element types lie in unlike blocks. -/
theorem own_ne {w : World} {B g h n m c d : Nat} {xs ys : List Value} (h1 : w.ownsRow B 29 1 (.slice (some ⟨g, 0, none⟩) n c) n xs) (h2 : w.ownsRow B 5 1 (.slice (some ⟨h, 0, none⟩) m d) m ys) : g ≠ h := by
  intro e
  subst e
  rcases h1.2 with ⟨e, _⟩ | ⟨g1, _, c1, e1, _, k1, _⟩
  · simp at e
  · rcases h2.2 with ⟨e, _⟩ | ⟨g2, _, c2, e2, _, k2, _⟩
    · simp at e
    · simp only [Value.slice.injEq, Option.some.injEq, Addr.mk.injEq] at e1 e2
      rw [← e1.1.1] at k1
      rw [← e2.1.1, k1] at k2
      simp at k2

theorem marked_nil {B : Nat} {w : World} {vs : List Value} {k : Nat} (h : Marked B w vs k) {hk : k < vs.length} (hn : vs[k] = .slice none 0 0) : Marked B w vs (k + 1) := by
  intro j v hv
  obtain ⟨xs, hf, hm⟩ := h j v hv
  by_cases hj : j = k
  · subst hj
    rw [List.getElem?_eq_getElem hk, hn] at hv
    cases hv
    exact ⟨[], .inl ⟨rfl, rfl⟩, fun _ u hu => by cases hu⟩
  · exact ⟨xs, hf, fun h' => hm (by omega)⟩

set_option maxHeartbeats 4000000 in
theorem owned_any (B gr cc : Nat) (vs : List Value) (w : World) (hB : B ≤ w.heap.size) (hrows : w.ownsRow B 29 1 (.slice (some ⟨gr, 0, none⟩) vs.length cc) vs.length vs) (hm : Marked B w vs 0) (ha : Apart vs) (hlen : vs.length ≤ 100000) :
    Calls Tryd.prog 12 #[.slice (some ⟨gr, 0, none⟩) vs.length cc] w fun e w' => e = .returned (.bool true) ∧ Below B w w' := by
  have HA := hid ha
  clear ha
  go_enter Tryd.func12, Tryd.ntmps12
  go_wp2_with fail
  go_loopw [3] (fun i wr => ∃ k : Nat, k ≤ vs.length ∧ i = .int .i64 k ∧ wr.ownsRow B 29 1 (.slice (some ⟨gr, 0, none⟩) vs.length cc) vs.length vs ∧ Hid (Marked B wr vs k) ∧ Below B w wr) (fun i _ => vs.length - (intOf i).toNat)
  case atStart => exact ⟨0, Nat.zero_le _, rfl, hrows, hm, Below.refl _ _⟩
  case round =>
    obtain ⟨k, hk, rfl, hro, HM, hbel⟩ := hrel
    by_cases hlt : k < vs.length
    · have hvk : vs[k]? = some vs[k] := List.getElem?_eq_getElem hlt
      have hcell : wr.cell? ⟨gr, k, none⟩ = some vs[k] := by rw [hro.cellAt k (by omega)]; exact hvk
      obtain ⟨xs, hfull, _⟩ := HM.out k vs[k] hvk
      have hki : (k : Int) < (vs.length : Int) := by omega
      have hk0 : (0 : Int) ≤ (k : Int) := by omega
      rcases hfull with ⟨hnil, hxs⟩ | ⟨g, l, c, hv, ho⟩
      · rw [hnil] at hcell
        have HN := hid hnil
        clear hnil hvk
        go_wp2_with fail
        go_quiet (fail)
        go_wp2_with fail
        go_rounds 1
        go_roundw
        case rel => exact ⟨k + 1, by omega, by go_num, hro, marked_nil HM.out HN.out, below_drewN hbel _⟩
        case measure => simp [intOf]; omega
      · rw [hv] at hcell
        have HV := hid (hvk.trans (congrArg some hv))
        have HO := hid ho
        clear hv hvk ho
        have hcm : c ≤ 9223372036854775807 := by
          rcases HO.out.2 with ⟨e, _⟩ | ⟨_, cap, _, e, _, _, _, h, _⟩
          · simp at e
          · simp only [Value.slice.injEq] at e
            unfold maxLen at h
            omega
        go_wp2_with fail
        go_quiet (fail)
        go_wp2_with fail
        go_loopw [5] (fun i wx => ∃ (q : Nat) (ys : List Value), q ≤ c ∧ i = .int .i64 q ∧ wx.ownsRow B 29 1 (.slice (some ⟨gr, 0, none⟩) vs.length cc) vs.length vs ∧ wx.ownsRow B 5 1 (.slice (some ⟨g, 0, none⟩) c c) c ys ∧ Hid (∀ p, p < q → ys[p]? = some (mark k)) ∧ Hid (∀ (j : Nat) (v : Value), vs[j]? = some v → j ≠ k → ∃ xs, Full B wx v xs ∧ (j < k → ∀ u ∈ xs, u = mark j)) ∧ Below B w wx) (fun i _ => c - (intOf i).toNat)
        case atStart => exact ⟨0, xs, Nat.zero_le _, rfl, hro, HO.out, fun p hp => by omega, fun j v hv hj => HM.out j v hv, below_drewN hbel _⟩
        case round =>
          obtain ⟨q, ys, hq, rfl, hro2, hoy, HY, HJ, hbel2⟩ := hrel
          by_cases hqc : q < c
          · have hl : ys.length = c := by have := hoy.1; omega
            have hcy : wr.cell? ⟨g, q, none⟩ = some (ys[q]'(by omega)) := by rw [hoy.cellAt q (by omega)]; exact List.getElem?_eq_getElem _
            have hfy := hoy.frozenAt q
            go_wp2_with fail
            have hne := own_ne hro2 hoy
            have hst := (hoy.stored q (mark k)).1
            go_roundw
            case rel =>
              refine ⟨q + 1, ys.set q (mark k), by omega, by go_num, ownsRow_setCell_other hro2 (by simp [Value.ownBlock]; exact hne) _, hst, ?_, marked_store HJ.out HA.out HV.out _, hbel2.setCell (hoy.lt g rfl).1 _⟩
              intro p hp
              rw [List.getElem?_set]
              by_cases hpq : q = p
              · rw [if_pos hpq, if_pos (by omega)]
              · rw [if_neg hpq]; exact HY.out p (by omega)
            case measure => simp [intOf]; omega
          · have hqe : q = c := by omega
            have hall : ∀ u ∈ ys, u = mark k := by
              intro u hu
              obtain ⟨p, hp, rfl⟩ := List.getElem_of_mem hu
              have := HY.out p (by have := hoy.1; omega)
              rw [List.getElem?_eq_getElem hp] at this
              exact Option.some.inj this
            have hmk : Marked B wr vs (k + 1) := by
              intro j v hv
              by_cases hj : j = k
              · subst hj
                rw [HV.out] at hv
                cases hv
                exact ⟨ys, .inr ⟨g, l, c, rfl, hoy⟩, fun _ => hall⟩
              · obtain ⟨zs, hf, hm⟩ := HJ.out j v hv hj
                exact ⟨zs, hf, fun h' => hm (by omega)⟩
            have HMK := hid hmk
            clear hall hmk
            go_wp2
            go_roundw
            case rel => exact ⟨k + 1, by omega, by go_num, hro2, HMK, hbel2⟩
            case measure => simp [intOf]; omega
    · have hkl : k = vs.length := by omega
      subst hkl
      go_wp2_with fail
      go_loopw [6] (fun i wx => ∃ q : Nat, q ≤ vs.length ∧ i = .int .i64 q ∧ wx.ownsRow B 29 1 (.slice (some ⟨gr, 0, none⟩) vs.length cc) vs.length vs ∧ Hid (Marked B wx vs vs.length) ∧ Below B w wx) (fun i _ => vs.length - (intOf i).toNat)
      case atStart => exact ⟨0, Nat.zero_le _, rfl, hro, HM, hbel⟩
      case round =>
        obtain ⟨q, hq, rfl, hro2, HM2, hbel2⟩ := hrel
        by_cases hlt2 : q < vs.length
        · have hvk : vs[q]? = some vs[q] := List.getElem?_eq_getElem hlt2
          have hcell : wr.cell? ⟨gr, q, none⟩ = some vs[q] := by rw [hro2.cellAt q (by omega)]; exact hvk
          obtain ⟨xs, hfull, hmk⟩ := HM2.out q vs[q] hvk
          have HMK := hid (hmk hlt2)
          clear hmk
          have hki : (q : Int) < (vs.length : Int) := by omega
          have hk0 : (0 : Int) ≤ (q : Int) := by omega
          rcases hfull with ⟨hnil, hxs⟩ | ⟨g, l, c, hv, ho⟩
          · rw [hnil] at hcell
            clear hnil hvk
            go_wp2_with fail
            go_quiet (fail)
            go_wp2_with fail
            go_rounds 1
            go_roundw
            case rel => exact ⟨q + 1, by omega, by go_num, hro2, HM2, below_drewN hbel2 _⟩
            case measure => simp [intOf]; omega
          · rw [hv] at hcell
            have HO := hid ho
            clear hv hvk ho
            have hcm : c ≤ 9223372036854775807 := by
              rcases HO.out.2 with ⟨e, _⟩ | ⟨_, cap, _, e, _, _, _, h, _⟩
              · simp at e
              · simp only [Value.slice.injEq] at e
                unfold maxLen at h
                omega
            go_wp2_with fail
            go_quiet (fail)
            go_wp2_with fail
            go_loop [8] (fun i => ∃ p : Nat, p ≤ c ∧ i = .int .i64 p) (fun i => c - (intOf i).toNat)
            case atStart => exact ⟨0, Nat.zero_le _, rfl⟩
            case round =>
              obtain ⟨p, hp, rfl⟩ := hrel
              by_cases hpc : p < c
              · have hl : xs.length = c := by have := HO.out.1; omega
                have hcx : wr.cell? ⟨g, p, none⟩ = some (.int .u8 (((q : Int) + 1) % 256)) := by
                  rw [HO.out.cellAt p (by omega), List.getElem?_eq_getElem (by omega)]
                  exact congrArg some (HMK.out _ (List.getElem_mem _))
                go_wp2
                go_round
                case rel => exact ⟨p + 1, by omega, by go_num⟩
                case measure => simp [intOf]; omega
              · go_wp2
                go_roundw
                case rel => exact ⟨q + 1, by omega, by go_num, hro2, HM2, below_drewN hbel2 _⟩
                case measure => simp [intOf]; omega
        · go_wp2
          go_ret
          exact ⟨rfl, hbel2⟩
end Go.Proofs.YthjgbcbgkafgjaaDoor

/- Contract of the law's helper Owned, with what it leaves alone: blocks that are none of the slices' own. -/

namespace Go.Proofs.YthjgbcbgkafgjaaDoor
open Go.RowKit
set_option linter.unusedVariables false
set_option maxRecDepth 20000

/-- What lies below B, and every block that is none of the slices' own, is as it was. -/
def Keeps (B : Nat) (vs : List Value) (w w' : World) : Prop := Below B w w' ∧ ∀ k, (∀ v ∈ vs, v.ownBlock ≠ some k) → w'.heap[k]? = w.heap[k]?

theorem Keeps.refl (B : Nat) (vs : List Value) (w : World) : Keeps B vs w w := ⟨Below.refl _ _, fun _ _ => rfl⟩

theorem Keeps.drewN {B : Nat} {vs : List Value} {w w' : World} (h : Keeps B vs w w') (n : Nat) : Keeps B vs w (w'.drewN n) := ⟨below_drewN h.1 n, fun k hk => h.2 k hk⟩

theorem Keeps.setCell {B : Nat} {vs : List Value} {w w' : World} (h : Keeps B vs w w') {g k l c : Nat} (hB : B ≤ g) (hk : vs[k]? = some (.slice (some ⟨g, 0, none⟩) l c)) (q : Nat) (u : Value) : Keeps B vs w (w'.setCell ⟨g, q, none⟩ u) := by
  refine ⟨h.1.setCell hB u, fun j hj => (heap_setCell_other w' ⟨g, q, none⟩ j u (fun e => ?_)).trans (h.2 j hj)⟩
  exact hj _ (List.mem_of_getElem? hk) (by show some g = some j; rw [e])

set_option maxHeartbeats 4000000 in
theorem owned_keep (B gr cc : Nat) (vs : List Value) (w : World) (hB : B ≤ w.heap.size) (hrows : w.ownsRow B 29 1 (.slice (some ⟨gr, 0, none⟩) vs.length cc) vs.length vs) (hm : Marked B w vs 0) (ha : Apart vs) (hlen : vs.length ≤ 100000) :
    Calls Tryd.prog 12 #[.slice (some ⟨gr, 0, none⟩) vs.length cc] w fun e w' => e = .returned (.bool true) ∧ Keeps B vs w w' := by
  have HA := hid ha
  clear ha
  go_enter Tryd.func12, Tryd.ntmps12
  go_wp2_with fail
  go_loopw [3] (fun i wr => ∃ k : Nat, k ≤ vs.length ∧ i = .int .i64 k ∧ wr.ownsRow B 29 1 (.slice (some ⟨gr, 0, none⟩) vs.length cc) vs.length vs ∧ Hid (Marked B wr vs k) ∧ Keeps B vs w wr) (fun i _ => vs.length - (intOf i).toNat)
  case atStart => exact ⟨0, Nat.zero_le _, rfl, hrows, hm, Keeps.refl _ _ _⟩
  case round =>
    obtain ⟨k, hk, rfl, hro, HM, hbel⟩ := hrel
    by_cases hlt : k < vs.length
    · have hvk : vs[k]? = some vs[k] := List.getElem?_eq_getElem hlt
      have hcell : wr.cell? ⟨gr, k, none⟩ = some vs[k] := by rw [hro.cellAt k (by omega)]; exact hvk
      obtain ⟨xs, hfull, _⟩ := HM.out k vs[k] hvk
      have hki : (k : Int) < (vs.length : Int) := by omega
      have hk0 : (0 : Int) ≤ (k : Int) := by omega
      rcases hfull with ⟨hnil, hxs⟩ | ⟨g, l, c, hv, ho⟩
      · rw [hnil] at hcell
        have HN := hid hnil
        clear hnil hvk
        go_wp2_with fail
        go_quiet (fail)
        go_wp2_with fail
        go_rounds 1
        go_roundw
        case rel => exact ⟨k + 1, by omega, by go_num, hro, marked_nil HM.out HN.out, hbel.drewN _⟩
        case measure => simp [intOf]; omega
      · rw [hv] at hcell
        have HV := hid (hvk.trans (congrArg some hv))
        have HO := hid ho
        clear hv hvk ho
        have hcm : c ≤ 9223372036854775807 := by
          rcases HO.out.2 with ⟨e, _⟩ | ⟨_, cap, _, e, _, _, _, h, _⟩
          · simp at e
          · simp only [Value.slice.injEq] at e
            unfold maxLen at h
            omega
        go_wp2_with fail
        go_quiet (fail)
        go_wp2_with fail
        go_loopw [5] (fun i wx => ∃ (q : Nat) (ys : List Value), q ≤ c ∧ i = .int .i64 q ∧ wx.ownsRow B 29 1 (.slice (some ⟨gr, 0, none⟩) vs.length cc) vs.length vs ∧ wx.ownsRow B 5 1 (.slice (some ⟨g, 0, none⟩) c c) c ys ∧ Hid (∀ p, p < q → ys[p]? = some (mark k)) ∧ Hid (∀ (j : Nat) (v : Value), vs[j]? = some v → j ≠ k → ∃ xs, Full B wx v xs ∧ (j < k → ∀ u ∈ xs, u = mark j)) ∧ Keeps B vs w wx) (fun i _ => c - (intOf i).toNat)
        case atStart => exact ⟨0, xs, Nat.zero_le _, rfl, hro, HO.out, fun p hp => by omega, fun j v hv hj => HM.out j v hv, hbel.drewN _⟩
        case round =>
          obtain ⟨q, ys, hq, rfl, hro2, hoy, HY, HJ, hbel2⟩ := hrel
          by_cases hqc : q < c
          · have hl : ys.length = c := by have := hoy.1; omega
            have hcy : wr.cell? ⟨g, q, none⟩ = some (ys[q]'(by omega)) := by rw [hoy.cellAt q (by omega)]; exact List.getElem?_eq_getElem _
            have hfy := hoy.frozenAt q
            go_wp2_with fail
            have hne := own_ne hro2 hoy
            have hst := (hoy.stored q (mark k)).1
            go_roundw
            case rel =>
              refine ⟨q + 1, ys.set q (mark k), by omega, by go_num, ownsRow_setCell_other hro2 (by simp [Value.ownBlock]; exact hne) _, hst, ?_, marked_store HJ.out HA.out HV.out _, hbel2.setCell (hoy.lt g rfl).1 HV.out q _⟩
              intro p hp
              rw [List.getElem?_set]
              by_cases hpq : q = p
              · rw [if_pos hpq, if_pos (by omega)]
              · rw [if_neg hpq]; exact HY.out p (by omega)
            case measure => simp [intOf]; omega
          · have hqe : q = c := by omega
            have hall : ∀ u ∈ ys, u = mark k := by
              intro u hu
              obtain ⟨p, hp, rfl⟩ := List.getElem_of_mem hu
              have := HY.out p (by have := hoy.1; omega)
              rw [List.getElem?_eq_getElem hp] at this
              exact Option.some.inj this
            have hmk : Marked B wr vs (k + 1) := by
              intro j v hv
              by_cases hj : j = k
              · subst hj
                rw [HV.out] at hv
                cases hv
                exact ⟨ys, .inr ⟨g, l, c, rfl, hoy⟩, fun _ => hall⟩
              · obtain ⟨zs, hf, hm⟩ := HJ.out j v hv hj
                exact ⟨zs, hf, fun h' => hm (by omega)⟩
            have HMK := hid hmk
            clear hall hmk
            go_wp2
            go_roundw
            case rel => exact ⟨k + 1, by omega, by go_num, hro2, HMK, hbel2⟩
            case measure => simp [intOf]; omega
    · have hkl : k = vs.length := by omega
      subst hkl
      go_wp2_with fail
      go_loopw [6] (fun i wx => ∃ q : Nat, q ≤ vs.length ∧ i = .int .i64 q ∧ wx.ownsRow B 29 1 (.slice (some ⟨gr, 0, none⟩) vs.length cc) vs.length vs ∧ Hid (Marked B wx vs vs.length) ∧ Keeps B vs w wx) (fun i _ => vs.length - (intOf i).toNat)
      case atStart => exact ⟨0, Nat.zero_le _, rfl, hro, HM, hbel⟩
      case round =>
        obtain ⟨q, hq, rfl, hro2, HM2, hbel2⟩ := hrel
        by_cases hlt2 : q < vs.length
        · have hvk : vs[q]? = some vs[q] := List.getElem?_eq_getElem hlt2
          have hcell : wr.cell? ⟨gr, q, none⟩ = some vs[q] := by rw [hro2.cellAt q (by omega)]; exact hvk
          obtain ⟨xs, hfull, hmk⟩ := HM2.out q vs[q] hvk
          have HMK := hid (hmk hlt2)
          clear hmk
          have hki : (q : Int) < (vs.length : Int) := by omega
          have hk0 : (0 : Int) ≤ (q : Int) := by omega
          rcases hfull with ⟨hnil, hxs⟩ | ⟨g, l, c, hv, ho⟩
          · rw [hnil] at hcell
            clear hnil hvk
            go_wp2_with fail
            go_quiet (fail)
            go_wp2_with fail
            go_rounds 1
            go_roundw
            case rel => exact ⟨q + 1, by omega, by go_num, hro2, HM2, hbel2.drewN _⟩
            case measure => simp [intOf]; omega
          · rw [hv] at hcell
            have HO := hid ho
            clear hv hvk ho
            have hcm : c ≤ 9223372036854775807 := by
              rcases HO.out.2 with ⟨e, _⟩ | ⟨_, cap, _, e, _, _, _, h, _⟩
              · simp at e
              · simp only [Value.slice.injEq] at e
                unfold maxLen at h
                omega
            go_wp2_with fail
            go_quiet (fail)
            go_wp2_with fail
            go_loop [8] (fun i => ∃ p : Nat, p ≤ c ∧ i = .int .i64 p) (fun i => c - (intOf i).toNat)
            case atStart => exact ⟨0, Nat.zero_le _, rfl⟩
            case round =>
              obtain ⟨p, hp, rfl⟩ := hrel
              by_cases hpc : p < c
              · have hl : xs.length = c := by have := HO.out.1; omega
                have hcx : wr.cell? ⟨g, p, none⟩ = some (.int .u8 (((q : Int) + 1) % 256)) := by
                  rw [HO.out.cellAt p (by omega), List.getElem?_eq_getElem (by omega)]
                  exact congrArg some (HMK.out _ (List.getElem_mem _))
                go_wp2
                go_round
                case rel => exact ⟨p + 1, by omega, by go_num⟩
                case measure => simp [intOf]; omega
              · go_wp2
                go_roundw
                case rel => exact ⟨q + 1, by omega, by go_num, hro2, HM2, hbel2.drewN _⟩
                case measure => simp [intOf]; omega
        · go_wp2
          go_ret
          exact ⟨rfl, hbel2⟩
end Go.Proofs.YthjgbcbgkafgjaaDoor
