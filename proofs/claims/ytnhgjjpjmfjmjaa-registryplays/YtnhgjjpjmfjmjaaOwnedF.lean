/- Contract of the law's helper Owned, over slices in blocks of their own that may bear a conversion's mark; and of SameRows. -/
import Derived.Test.YtnhgjjpjmfjmjaaCountF
import Derived.Test.YtnhgjjpjmfjmjaaLent
import Derived.Deep.QuietTactic
import Derived.BigQuiet
namespace Go.Proofs.Ytnhgjjpjmfjmjaa
open Go.RowKit
set_option linter.unusedVariables false

/-- BLOCK g IS A ROW OF THE c BYTES ys, none of which is frozen. -/
def FullR (B : Nat) (w : World) (g c : Nat) (ys : List Value) : Prop :=
  B ≤ g ∧ ∃ fr, w.heap[g]? = some (.cells ys.toArray 5 fr) ∧ ys.length = c ∧ c ≤ maxLen ∧ (fr = (0, 0) ∨ c ≤ fr.1)

theorem FullR.cellAt {B : Nat} {w : World} {g c : Nat} {ys : List Value} (h : FullR B w g c ys) (q : Nat) : w.cell? ⟨g, q, none⟩ = ys[q]? := by
  obtain ⟨_, fr, hg, _⟩ := h
  rw [cell_of_row _ _ _ _ _ _ hg]
  simp

theorem FullR.len {B : Nat} {w : World} {g c : Nat} {ys : List Value} (h : FullR B w g c ys) : ys.length = c ∧ c ≤ maxLen := by
  obtain ⟨_, fr, _, h1, h2, _⟩ := h
  exact ⟨h1, h2⟩

theorem FullR.frozenAt {B : Nat} {w : World} {g c : Nat} {ys : List Value} (h : FullR B w g c ys) (q : Nat) (hq : q < c) : w.frozen? ⟨g, q, none⟩ = false := by
  obtain ⟨_, ⟨lo, hi⟩, hg, _, _, hf⟩ := h
  simp only [World.frozen?, hg]
  rcases hf with hf | hf
  · cases hf
    simp
  · simp only at hf
    have : ¬ lo ≤ q := by omega
    simp [this]

theorem FullR.stored {B : Nat} {w : World} {g c : Nat} {ys : List Value} (h : FullR B w g c ys) (q : Nat) (u : Value) : FullR B (w.setCell ⟨g, q, none⟩ u) g c (ys.set q u) := by
  obtain ⟨hB, fr, hg, h1, h2, hf⟩ := h
  refine ⟨hB, fr, ?_, by simpa using h1, h2, hf⟩
  rw [setCell_eq_setRow w g q _ _ fr u hg, setRow_heap w g _ _ _ _ hg]
  simp

theorem FullR.other {B : Nat} {w : World} {g c : Nat} {ys : List Value} (h : FullR B w g c ys) {g' : Nat} (hne : g ≠ g') (q : Nat) (u : Value) : FullR B (w.setCell ⟨g', q, none⟩ u) g c ys := by
  obtain ⟨hB, fr, hg, rest⟩ := h
  exact ⟨hB, fr, (heap_setCell_other w ⟨g', q, none⟩ g u (by simpa using hne)).trans hg, rest⟩

/-- A slice of bytes with its whole room. -/
def FullF (B : Nat) (w : World) (v : Value) (ys : List Value) : Prop := (v = .slice none 0 0 ∧ ys = []) ∨ ∃ g l c, v = .slice (some ⟨g, 0, none⟩) l c ∧ FullR B w g c ys

theorem FullF.kept {B : Nat} {w : World} {v : Value} {xs : List Value} (h : FullF B w v xs) {g : Nat} (hne : v.ownBlock ≠ some g) (k : Nat) (u : Value) : FullF B (w.setCell ⟨g, k, none⟩ u) v xs := by
  rcases h with h | ⟨g', l, c, rfl, ho⟩
  · exact .inl h
  · exact .inr ⟨g', l, c, rfl, ho.other (by simpa [Value.ownBlock] using hne) k u⟩

theorem FullF.spares {S : Nat → Prop} {B : Nat} {w w' : World} {v : Value} {ys : List Value} (h : FullF B w v ys) (hk : Spares S w w') (hS : ∀ g, v.ownBlock = some g → ¬ S g) : FullF B w' v ys := by
  rcases h with h | ⟨g, l, c, rfl, hB, fr, hg, rest⟩
  · exact .inl h
  · exact .inr ⟨g, l, c, rfl, hB, fr, (hk.block g (Array.getElem?_eq_some_iff.1 hg).1 (hS g rfl)).trans hg, rest⟩

theorem OwnF.full {B : Nat} {w : World} {v : Value} {r : List UInt8} (h : OwnF B w v r) : ∃ ys, FullF B w v ys := by
  obtain ⟨g, cap, cur, fr, rfl, hB, hg, h1, h2, h3, h4, h5⟩ := h
  exact ⟨cur.toList, .inr ⟨g, _, cap, rfl, hB, fr, by simpa using hg, by simpa using h3, h2, h5⟩⟩

theorem Lends.fullF {B : Nat} {w : World} {v : Value} {bs : List UInt8} (h : Lends B w v bs) : ∃ ys, FullF B w v ys := by
  obtain ⟨g, rfl, h1, h2⟩ := h
  rcases h2 with ⟨e, _⟩ | ⟨g', cap, cur, e, hB, hg, h3, h4, h5, h6⟩
  · simp at e
  · simp only [Value.slice.injEq, Option.some.injEq, Addr.mk.injEq, true_and, and_true] at e
    obtain ⟨rfl, hc⟩ := e
    refine ⟨cur.toList, .inr ⟨g, _, _, rfl, hB, (0, 0), by simpa using hg, ?_, by rw [hc]; exact h4, .inl rfl⟩⟩
    rw [Array.length_toList, h5, hc]
    omega

/-- The mark of the i-th. -/
def markF (i : Nat) : Value := .int .u8 (((i : Int) + 1) % 256)

/-- All slices, each with its room; those ahead of i are marked whole. -/
def MarkedF (B : Nat) (w : World) (vs : List Value) (i : Nat) : Prop :=
  ∀ (j : Nat) (v : Value), vs[j]? = some v → ∃ xs, FullF B w v xs ∧ (j < i → ∀ u ∈ xs, u = markF j)

def ApartF (vs : List Value) : Prop := ∀ (i j : Nat) (u v : Value) (g : Nat), vs[i]? = some u → vs[j]? = some v → i ≠ j → u.ownBlock = some g → v.ownBlock ≠ some g

theorem markedF_store {B : Nat} {w : World} {vs : List Value} {i k g l c : Nat} (h : ∀ (j : Nat) (v : Value), vs[j]? = some v → j ≠ i → ∃ xs, FullF B w v xs ∧ (j < i → ∀ u ∈ xs, u = markF j)) (ha : ApartF vs)
    (hi : vs[i]? = some (.slice (some ⟨g, 0, none⟩) l c)) (u : Value) : ∀ (j : Nat) (v : Value), vs[j]? = some v → j ≠ i → ∃ xs, FullF B (w.setCell ⟨g, k, none⟩ u) v xs ∧ (j < i → ∀ u ∈ xs, u = markF j) := by
  intro j v hv hj
  obtain ⟨ys, hf, hm⟩ := h j v hv hj
  exact ⟨ys, hf.kept (ha i j _ v g hi hv (fun e => hj e.symm) rfl) k u, hm⟩

theorem markedF_nil {B : Nat} {w : World} {vs : List Value} {k : Nat} (h : MarkedF B w vs k) {hk : k < vs.length} (hn : vs[k] = .slice none 0 0) : MarkedF B w vs (k + 1) := by
  intro j v hv
  obtain ⟨xs, hf, hm⟩ := h j v hv
  by_cases hj : j = k
  · subst hj
    rw [List.getElem?_eq_getElem hk, hn] at hv
    cases hv
    exact ⟨[], .inl ⟨rfl, rfl⟩, fun _ u hu => by cases hu⟩
  · exact ⟨xs, hf, fun h' => hm (by omega)⟩

/-- The slices' own blocks. -/
def ownOf (vs : List Value) (i : Nat) : Prop := ∃ v ∈ vs, v.ownBlock = some i

theorem ownOf_set {vs : List Value} {w w' : World} (h : Spares (ownOf vs) w w') {g k l c : Nat} (hk : vs[k]? = some (.slice (some ⟨g, 0, none⟩) l c)) (q : Nat) (u : Value) : Spares (ownOf vs) w (w'.setCell ⟨g, q, none⟩ u) :=
  h.andThen (T := fun i => i = g) ⟨rfl, rfl, rfl, by simp [World.setCell], fun j hj hS => heap_setCell_other w' ⟨g, q, none⟩ j u hS⟩ (fun i hi => .inl (by rw [hi]; exact ⟨_, List.mem_of_getElem? hk, rfl⟩))

theorem spares_drewN {S : Nat → Prop} {w w' : World} (h : Spares S w w') (n : Nat) : Spares S w (w'.drewN n) :=
  h.andThen (T := fun _ => False) (Spares.of_new (below_drewN (Below.refl _ _) n)) (fun _ hi => hi.elim)

theorem ownF_ne {w : World} {B C g h n c d : Nat} {xs ys : List Value} (h1 : w.ownsRow B 28 1 (.slice (some ⟨g, 0, none⟩) n c) n xs) (h2 : FullR C w h d ys) : g ≠ h := by
  intro e
  subst e
  obtain ⟨_, fr, hg, _⟩ := h2
  rcases h1.2 with ⟨e, _⟩ | ⟨g1, _, c1, e1, _, k1, _⟩
  · simp at e
  · simp only [Value.slice.injEq, Option.some.injEq, Addr.mk.injEq] at e1
    rw [← e1.1.1, hg] at k1
    simp at k1

set_option maxHeartbeats 4000000 in
theorem ownedF_some (B gr cc : Nat) (vs : List Value) (w : World) (hB : B ≤ w.heap.size) (hrows : w.ownsRow B 28 1 (.slice (some ⟨gr, 0, none⟩) vs.length cc) vs.length vs) (hm : MarkedF B w vs 0) (ha : ApartF vs) (hlen : vs.length ≤ 100000) :
    Calls Try.prog 18 #[.slice (some ⟨gr, 0, none⟩) vs.length cc] w fun e w' => e = .returned (.bool true) ∧ Spares (ownOf vs) w w' := by
  have HA := hid ha
  clear ha
  go_enter Try.func18, Try.ntmps18
  go_wp2_with fail
  go_loopw [3] (fun i wr => ∃ k : Nat, k ≤ vs.length ∧ i = .int .i64 k ∧ wr.ownsRow B 28 1 (.slice (some ⟨gr, 0, none⟩) vs.length cc) vs.length vs ∧ Hid (MarkedF B wr vs k) ∧ Spares (ownOf vs) w wr) (fun i _ => vs.length - (intOf i).toNat)
  case atStart => exact ⟨0, Nat.zero_le _, rfl, hrows, hm, Spares.refl _ _⟩
  case round =>
    obtain ⟨k, hk, rfl, hro, HM, hbel⟩ := hrel
    by_cases hlt : k < vs.length
    · have hvk : vs[k]? = some vs[k] := List.getElem?_eq_getElem hlt
      have hcell : wr.cell? ⟨gr, k, none⟩ = some vs[k] := by rw [hro.cellAt k (by omega)]; exact hvk
      obtain ⟨xs, hfull, _⟩ := HM.out k vs[k] hvk
      have hki : (k : Int) < (vs.length : Int) := by omega
      have hk0 : (0 : Int) ≤ (k : Int) := by omega
      rcases hfull with ⟨hnil, hxs⟩ | ⟨g, l, c, hv, ho⟩
      · rw [hnil] at hcell
        have HN := hid hnil
        clear hnil hvk
        go_wp2_with fail
        go_quiet (fail)
        go_wp2_with fail
        go_rounds 1
        go_roundw
        case rel => exact ⟨k + 1, by omega, by go_num, hro, markedF_nil HM.out HN.out, spares_drewN hbel _⟩
        case measure => simp [intOf]; omega
      · rw [hv] at hcell
        have HV := hid (hvk.trans (congrArg some hv))
        have HO := hid ho
        clear hv hvk ho
        have hcm : c ≤ 9223372036854775807 := by have h := HO.out.len.2; unfold maxLen at h; exact h
        go_wp2_with fail
        go_quiet (fail)
        go_wp2_with fail
        go_loopw [5] (fun i wx => ∃ (q : Nat) (ys : List Value), q ≤ c ∧ i = .int .i64 q ∧ wx.ownsRow B 28 1 (.slice (some ⟨gr, 0, none⟩) vs.length cc) vs.length vs ∧ FullR B wx g c ys ∧ Hid (∀ p, p < q → ys[p]? = some (markF k)) ∧ Hid (∀ (j : Nat) (v : Value), vs[j]? = some v → j ≠ k → ∃ xs, FullF B wx v xs ∧ (j < k → ∀ u ∈ xs, u = markF j)) ∧ Spares (ownOf vs) w wx) (fun i _ => c - (intOf i).toNat)
        case atStart => exact ⟨0, xs, Nat.zero_le _, rfl, hro, HO.out, fun p hp => by omega, fun j v hv hj => HM.out j v hv, spares_drewN hbel _⟩
        case round =>
          obtain ⟨q, ys, hq, rfl, hro2, hoy, HY, HJ, hbel2⟩ := hrel
          by_cases hqc : q < c
          · have hl : ys.length = c := hoy.len.1
            have hcy : wr.cell? ⟨g, q, none⟩ = some (ys[q]'(by omega)) := by rw [hoy.cellAt q]; exact List.getElem?_eq_getElem _
            have hfy := hoy.frozenAt q hqc
            go_wp2_with fail
            have hne := ownF_ne hro2 hoy
            have hst := hoy.stored q (markF k)
            go_roundw
            case rel =>
              refine ⟨q + 1, ys.set q (markF k), by omega, by go_num, ownsRow_setCell_other hro2 (by simp [Value.ownBlock]; exact hne) _, hst, ?_, markedF_store HJ.out HA.out HV.out _, ownOf_set hbel2 HV.out q _⟩
              intro p hp
              rw [List.getElem?_set]
              by_cases hpq : q = p
              · rw [if_pos hpq, if_pos (by omega)]
              · rw [if_neg hpq]; exact HY.out p (by omega)
            case measure => simp [intOf]; omega
          · have hqe : q = c := by omega
            have hall : ∀ u ∈ ys, u = markF k := by
              intro u hu
              obtain ⟨p, hp, rfl⟩ := List.getElem_of_mem hu
              have := HY.out p (by have := hoy.len.1; omega)
              rw [List.getElem?_eq_getElem hp] at this
              exact Option.some.inj this
            have hmk : MarkedF B wr vs (k + 1) := by
              intro j v hv
              by_cases hj : j = k
              · subst hj
                rw [HV.out] at hv
                cases hv
                exact ⟨ys, .inr ⟨g, l, c, rfl, hoy⟩, fun _ => hall⟩
              · obtain ⟨zs, hf, hm⟩ := HJ.out j v hv hj
                exact ⟨zs, hf, fun h' => hm (by omega)⟩
            have HMK := hid hmk
            clear hall hmk
            go_wp2
            go_roundw
            case rel => exact ⟨k + 1, by omega, by go_num, hro2, HMK, hbel2⟩
            case measure => simp [intOf]; omega
    · have hkl : k = vs.length := by omega
      subst hkl
      go_wp2_with fail
      go_loopw [6] (fun i wx => ∃ q : Nat, q ≤ vs.length ∧ i = .int .i64 q ∧ wx.ownsRow B 28 1 (.slice (some ⟨gr, 0, none⟩) vs.length cc) vs.length vs ∧ Hid (MarkedF B wx vs vs.length) ∧ Spares (ownOf vs) w wx) (fun i _ => vs.length - (intOf i).toNat)
      case atStart => exact ⟨0, Nat.zero_le _, rfl, hro, HM, hbel⟩
      case round =>
        obtain ⟨q, hq, rfl, hro2, HM2, hbel2⟩ := hrel
        by_cases hlt2 : q < vs.length
        · have hvk : vs[q]? = some vs[q] := List.getElem?_eq_getElem hlt2
          have hcell : wr.cell? ⟨gr, q, none⟩ = some vs[q] := by rw [hro2.cellAt q (by omega)]; exact hvk
          obtain ⟨xs, hfull, hmk⟩ := HM2.out q vs[q] hvk
          have HMK := hid (hmk hlt2)
          clear hmk
          have hki : (q : Int) < (vs.length : Int) := by omega
          have hk0 : (0 : Int) ≤ (q : Int) := by omega
          rcases hfull with ⟨hnil, hxs⟩ | ⟨g, l, c, hv, ho⟩
          · rw [hnil] at hcell
            clear hnil hvk
            go_wp2_with fail
            go_quiet (fail)
            go_wp2_with fail
            go_rounds 1
            go_roundw
            case rel => exact ⟨q + 1, by omega, by go_num, hro2, HM2, spares_drewN hbel2 _⟩
            case measure => simp [intOf]; omega
          · rw [hv] at hcell
            have HO := hid ho
            clear hv hvk ho
            have hcm : c ≤ 9223372036854775807 := by have h := HO.out.len.2; unfold maxLen at h; exact h
            go_wp2_with fail
            go_quiet (fail)
            go_wp2_with fail
            go_loop [8] (fun i => ∃ p : Nat, p ≤ c ∧ i = .int .i64 p) (fun i => c - (intOf i).toNat)
            case atStart => exact ⟨0, Nat.zero_le _, rfl⟩
            case round =>
              obtain ⟨p, hp, rfl⟩ := hrel
              by_cases hpc : p < c
              · have hl : xs.length = c := HO.out.len.1
                have hcx : wr.cell? ⟨g, p, none⟩ = some (.int .u8 (((q : Int) + 1) % 256)) := by
                  rw [HO.out.cellAt p, List.getElem?_eq_getElem (by omega)]
                  exact congrArg some (HMK.out _ (List.getElem_mem _))
                go_wp2
                go_round
                case rel => exact ⟨p + 1, by omega, by go_num⟩
                case measure => simp [intOf]; omega
              · go_wp2
                go_roundw
                case rel => exact ⟨q + 1, by omega, by go_num, hro2, HM2, spares_drewN hbel2 _⟩
                case measure => simp [intOf]; omega
        · go_wp2
          go_ret
          exact ⟨rfl, hbel2⟩

set_option maxHeartbeats 1000000 in
theorem ownedF_nil (w : World) : Calls Try.prog 18 #[.slice none 0 0] w fun e w' => e = .returned (.bool true) ∧ w' = w := by
  go_enter Try.func18, Try.ntmps18
  go_wp2_with fail
  go_rounds 1
  go_wp2_with fail
  go_rounds 1
  go_ret
  exact ⟨rfl, rfl⟩

theorem ownedF_any (B : Nat) (v : Value) (vs : List Value) (w : World) (hB : B ≤ w.heap.size) (hrows : w.ownsRow B 28 1 v vs.length vs) (hm : MarkedF B w vs 0) (ha : ApartF vs) (hlen : vs.length ≤ 100000) :
    Calls Try.prog 18 #[v] w fun e w' => e = .returned (.bool true) ∧ Spares (ownOf vs) w w' := by
  rcases hrows.2 with ⟨rfl, _⟩ | ⟨g, cap, cur, rfl, _⟩
  · refine (ownedF_nil w).mono ?_
    rintro e w' ⟨rfl, rfl⟩
    exact ⟨rfl, Spares.refl _ _⟩
  · exact ownedF_some B g cap vs w hB hrows hm ha hlen
end Go.Proofs.Ytnhgjjpjmfjmjaa
