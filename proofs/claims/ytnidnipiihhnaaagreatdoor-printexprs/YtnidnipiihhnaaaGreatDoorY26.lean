/- Packed for the hand-in: PSameE PSameA -/
import Derived.Test.YtnidnipiihhnaaaGreatDoorY08
import Derived.Deep.QuietTactic
import Derived.BigQuiet
namespace Go.Proofs.YtnidnipiihhnaaaGreatDoor
open Go.RowKit Go.Shelf
set_option linter.unusedSimpArgs false
set_option linter.unusedVariables false
set_option maxRecDepth 20000
set_option maxHeartbeats 8000000
theorem sameExpr_of (k op vk vn : Int) (tb nm vs : List UInt8) (aa aa' : Option Addr) (nn nn' cc cc' : Nat) (W : World)
    (H : ∀ V, Below W.heap.size W V → Calls Tryz.prog 26 #[.slice aa nn cc, .slice aa' nn' cc'] V fun e w' => e = .returned (.bool true) ∧ Below V.heap.size V w') :
    Calls Tryz.prog 13 #[.agg #[.int .i64 k, .int .i64 op, .string (str8 tb), .string (str8 nm), .int .i64 vk, .int .i64 vn, .string (str8 vs), .slice aa nn cc], .agg #[.int .i64 k, .int .i64 op, .string (str8 tb), .string (str8 nm), .int .i64 vk, .int .i64 vn, .string (str8 vs), .slice aa' nn' cc']] W fun e w' => e = .returned (.bool true) ∧ Below W.heap.size W w' := by
  have hq := run_eqv ⟨vk, vn, vs⟩ ⟨vk, vn, vs⟩
  have he : eqv ⟨vk, vn, vs⟩ ⟨vk, vn, vs⟩ = true := eqv_iff.2 rfl
  rw [he] at hq
  dsimp only at hq
  have hgd := Tryz.eqGuardVal
  obtain ⟨U, hU, hbU, hzU, hcA, hcB⟩ := two W (.cells #[.int .i64 k, .int .i64 op, .string (str8 tb), .string (str8 nm), .int .i64 vk, .int .i64 vn, .string (str8 vs), .slice aa nn cc] 26) (.cells #[.int .i64 k, .int .i64 op, .string (str8 tb), .string (str8 nm), .int .i64 vk, .int .i64 vn, .string (str8 vs), .slice aa' nn' cc'] 26)
  have HC := hid (H U hbU)
  have HB := hid hbU
  have kA := cells8 hcA
  have kB := cells8 hcB
  have e1 : ((str8 tb).toList == (str8 tb).toList) = true := by simp
  have e2 : ((str8 nm).toList == (str8 nm).toList) = true := by simp
  clear H hbU hcA hcB he
  go_enter Tryz.func13, Tryz.ntmps13
  go_wp2_with fail
  try rw [hU]
  clear hU
  refine HC.out.mono ?_
  rintro e w1 ⟨rfl, hb1⟩
  have HB1 := hid (HB.out.trans (hb1.mono HB.out.size))
  clear hb1 HC
  go_wp2
  go_ret
  exact ⟨by simp, HB1.out⟩
theorem sameExprs_any (S T : Nat → Prop) (W : World) (xs : List Ex) (v : Value) (h : ArgsAt S W xs v) : ∀ (V : World) (u : Value), Below W.heap.size W V → ArgsAt T V xs u →
    Calls Tryz.prog 26 #[v, u] V fun e w' => e = .returned (.bool true) ∧ Below V.heap.size V w' := by
  induction h with
  | nil a c hc =>
    intro V u hV hu
    obtain ⟨a', c', rfl, _⟩ := hu.form
    clear hu hV
    go_enter Tryz.func26, Tryz.ntmps26
    go_wp2_with fail
    go_rounds 1
    go_ret
    exact ⟨rfl, Below.refl _ _⟩
  | cons xs b off c avs hne hSb hl hc hcell hrec ih =>
    intro V u hV hu
    generalize hxs : xs = ys at hu
    cases hu with
    | nil a' c' hc' => exact absurd hxs hne
    | cons _ b' off' c' avs' hne' hTb' hl' hc' hcell' hrec' =>
      subst hxs
      unfold maxLen at hc hc'
      have hbl : b < W.heap.size := by
        cases xs with
        | nil => exact absurd rfl hne
        | cons x l =>
          obtain ⟨k, op, tb, nm, ⟨vk, vn, vs⟩, ys⟩ := x
          exact World.block_lt_of_cell? W _ (hcell 0 k op tb nm vk vn vs ys rfl).1
      have hbl' : b' < V.heap.size := by
        cases xs with
        | nil => exact absurd rfl hne
        | cons x l =>
          obtain ⟨k, op, tb, nm, ⟨vk, vn, vs⟩, ys⟩ := x
          exact World.block_lt_of_cell? V _ (hcell' 0 k op tb nm vk vn vs ys rfl).1
      have HA : Hid (∀ (Z : World), Below V.heap.size V Z → ∀ (j : Nat) (k op : Int) (tb nm : List UInt8) (vk vn : Int) (vs : List UInt8) (ys : List Ex), xs[j]? = some (.mk k op tb nm ⟨vk, vn, vs⟩ ys) →
          Z.cell? ⟨b, off + j * 8, none⟩ = some (.int .i64 k) ∧ Z.cell? ⟨b, off + j * 8 + 1, none⟩ = some (.int .i64 op) ∧ Z.cell? ⟨b, off + j * 8 + 2, none⟩ = some (.string (str8 tb)) ∧ Z.cell? ⟨b, off + j * 8 + 3, none⟩ = some (.string (str8 nm)) ∧ Z.cell? ⟨b, off + j * 8 + 4, none⟩ = some (.int .i64 vk) ∧ Z.cell? ⟨b, off + j * 8 + 5, none⟩ = some (.int .i64 vn) ∧ Z.cell? ⟨b, off + j * 8 + 6, none⟩ = some (.string (str8 vs)) ∧ Z.cell? ⟨b, off + j * 8 + 7, none⟩ = some (avs j)) := hid (fun Z hZ j k op tb nm vk vn vs ys hj => by
        have hWZ := hV.trans (hZ.mono hV.size)
        obtain ⟨c0, c1, c2, c3, c4, c5, c6, c7⟩ := hcell j k op tb nm vk vn vs ys hj
        exact ⟨(hWZ.cell (p := ⟨b, _, none⟩) hbl).trans c0, (hWZ.cell (p := ⟨b, _, none⟩) hbl).trans c1, (hWZ.cell (p := ⟨b, _, none⟩) hbl).trans c2, (hWZ.cell (p := ⟨b, _, none⟩) hbl).trans c3, (hWZ.cell (p := ⟨b, _, none⟩) hbl).trans c4, (hWZ.cell (p := ⟨b, _, none⟩) hbl).trans c5, (hWZ.cell (p := ⟨b, _, none⟩) hbl).trans c6, (hWZ.cell (p := ⟨b, _, none⟩) hbl).trans c7⟩)
      have HA' : Hid (∀ (Z : World), Below V.heap.size V Z → ∀ (j : Nat) (k op : Int) (tb nm : List UInt8) (vk vn : Int) (vs : List UInt8) (ys : List Ex), xs[j]? = some (.mk k op tb nm ⟨vk, vn, vs⟩ ys) →
          Z.cell? ⟨b', off' + j * 8, none⟩ = some (.int .i64 k) ∧ Z.cell? ⟨b', off' + j * 8 + 1, none⟩ = some (.int .i64 op) ∧ Z.cell? ⟨b', off' + j * 8 + 2, none⟩ = some (.string (str8 tb)) ∧ Z.cell? ⟨b', off' + j * 8 + 3, none⟩ = some (.string (str8 nm)) ∧ Z.cell? ⟨b', off' + j * 8 + 4, none⟩ = some (.int .i64 vk) ∧ Z.cell? ⟨b', off' + j * 8 + 5, none⟩ = some (.int .i64 vn) ∧ Z.cell? ⟨b', off' + j * 8 + 6, none⟩ = some (.string (str8 vs)) ∧ Z.cell? ⟨b', off' + j * 8 + 7, none⟩ = some (avs' j)) := hid (fun Z hZ j k op tb nm vk vn vs ys hj => by
        obtain ⟨c0, c1, c2, c3, c4, c5, c6, c7⟩ := hcell' j k op tb nm vk vn vs ys hj
        exact ⟨(hZ.cell (p := ⟨b', _, none⟩) hbl').trans c0, (hZ.cell (p := ⟨b', _, none⟩) hbl').trans c1, (hZ.cell (p := ⟨b', _, none⟩) hbl').trans c2, (hZ.cell (p := ⟨b', _, none⟩) hbl').trans c3, (hZ.cell (p := ⟨b', _, none⟩) hbl').trans c4, (hZ.cell (p := ⟨b', _, none⟩) hbl').trans c5, (hZ.cell (p := ⟨b', _, none⟩) hbl').trans c6, (hZ.cell (p := ⟨b', _, none⟩) hbl').trans c7⟩)
      have HI : Hid (∀ (Z : World), Below V.heap.size V Z → ∀ (j : Nat) (k op : Int) (tb nm : List UInt8) (vk vn : Int) (vs : List UInt8) (ys : List Ex), xs[j]? = some (.mk k op tb nm ⟨vk, vn, vs⟩ ys) → ∃ (aa aa' : Option Addr) (nn nn' cc cc' : Nat), avs j = .slice aa nn cc ∧ avs' j = .slice aa' nn' cc' ∧
          Calls Tryz.prog 13 #[.agg #[.int .i64 k, .int .i64 op, .string (str8 tb), .string (str8 nm), .int .i64 vk, .int .i64 vn, .string (str8 vs), .slice aa nn cc], .agg #[.int .i64 k, .int .i64 op, .string (str8 tb), .string (str8 nm), .int .i64 vk, .int .i64 vn, .string (str8 vs), .slice aa' nn' cc']] Z fun e w' => e = .returned (.bool true) ∧ Below Z.heap.size Z w') := hid (fun Z hZ j k op tb nm vk vn vs ys hj => by
        obtain ⟨aa, cc, e1, _⟩ := (hrec j k op tb nm vk vn vs ys hj).form
        obtain ⟨aa', cc', e2, _⟩ := (hrec' j k op tb nm vk vn vs ys hj).form
        refine ⟨aa, aa', _, _, cc, cc', e1, e2, sameExpr_of k op vk vn tb nm vs aa aa' _ _ cc cc' Z (fun Y hY => ?_)⟩
        have hVY := hZ.trans (hY.mono hZ.size)
        have := ih j k op tb nm vk vn vs ys hj Y (avs' j) (hV.trans (hVY.mono hV.size)) ((hrec' j k op tb nm vk vn vs ys hj).to (R := fun _ => False) (Spares.of_new hVY) (fun b hb _ => ⟨id, hb⟩))
        rw [e1, e2] at this
        exact this)
      clear hcell hcell' hrec hrec' ih hV
      go_enter Tryz.func26, Tryz.ntmps26
      go_wp2_with fail
      go_loopw [5, 6] (fun i _ wr => ∃ k : Nat, k ≤ xs.length ∧ i = .int .i64 k ∧ Below V.heap.size V wr) (fun i _ _ => xs.length - (intOf i).toNat)
      case atStart => exact ⟨0, Nat.zero_le _, rfl, Below.refl _ _⟩
      case round =>
        obtain ⟨j, hj, rfl, hbel⟩ := hrel
        by_cases hlt : j < xs.length
        · obtain ⟨⟨k, op, tb, nm, ⟨vk, vn, vs⟩, ys⟩, hx⟩ : ∃ x, xs[j]? = some x := ⟨_, List.getElem?_eq_getElem hlt⟩
          have hlt' : ((j : Int) < (xs.length : Int)) := by omega
          have kA := HA.out wr hbel j k op tb nm vk vn vs ys hx
          have kB := HA'.out wr hbel j k op tb nm vk vn vs ys hx
          obtain ⟨aa, aa', nn, nn', cc, cc', e1, e2, hcall⟩ := HI.out wr.drew hbel.drew j k op tb nm vk vn vs ys hx
          rw [e1] at kA
          rw [e2] at kB
          have HCA := hid hcall
          have HBR := hid hbel
          clear hcall hbel hx e1 e2
          go_wp2_with fail
          go_region_with (first
            | (go_at_call 13; refine HCA.out.mono ?_
               rintro e w1 ⟨rfl, hb1⟩
               have HB1 : Hid (Below V.heap.size V w1) := hid (HBR.out.drew.trans (hb1.mono HBR.out.size))
               clear hb1)
            | fail)
          all_goals go_wp2
          all_goals exact ⟨⟨j + 1, by omega, by go_num, HB1.out⟩, by simp [intOf]; omega⟩
        · have hlt' : ¬ ((j : Int) < (xs.length : Int)) := by omega
          have HBR := hid hbel
          clear hbel
          go_wp2
          go_ret
          exact ⟨rfl, HBR.out⟩
theorem cells14 {w : World} {g : Nat} {d0 d1 d2 d3 d4 d5 d6 d7 d8 d9 d10 d11 d12 d13 : Value} {t : TypeId} (h : w.heap[g]? = some (.cells #[d0, d1, d2, d3, d4, d5, d6, d7, d8, d9, d10, d11, d12, d13] t)) :
    w.cell? ⟨g, 0, none⟩ = some d0 ∧ w.cell? ⟨g, 1, none⟩ = some d1 ∧ w.cell? ⟨g, 2, none⟩ = some d2 ∧ w.cell? ⟨g, 3, none⟩ = some d3 ∧ w.cell? ⟨g, 4, none⟩ = some d4 ∧ w.cell? ⟨g, 5, none⟩ = some d5 ∧ w.cell? ⟨g, 6, none⟩ = some d6 ∧ w.cell? ⟨g, 7, none⟩ = some d7 ∧ w.cell? ⟨g, 8, none⟩ = some d8 ∧ w.cell? ⟨g, 9, none⟩ = some d9 ∧ w.cell? ⟨g, 10, none⟩ = some d10 ∧ w.cell? ⟨g, 11, none⟩ = some d11 ∧ w.cell? ⟨g, 12, none⟩ = some d12 ∧ w.cell? ⟨g, 13, none⟩ = some d13 :=
  ⟨by rw [cell_row _ _ _ _ _ _ h]; rfl, by rw [cell_row _ _ _ _ _ _ h]; rfl, by rw [cell_row _ _ _ _ _ _ h]; rfl, by rw [cell_row _ _ _ _ _ _ h]; rfl, by rw [cell_row _ _ _ _ _ _ h]; rfl, by rw [cell_row _ _ _ _ _ _ h]; rfl, by rw [cell_row _ _ _ _ _ _ h]; rfl, by rw [cell_row _ _ _ _ _ _ h]; rfl, by rw [cell_row _ _ _ _ _ _ h]; rfl, by rw [cell_row _ _ _ _ _ _ h]; rfl, by rw [cell_row _ _ _ _ _ _ h]; rfl, by rw [cell_row _ _ _ _ _ _ h]; rfl, by rw [cell_row _ _ _ _ _ _ h]; rfl, by rw [cell_row _ _ _ _ _ _ h]; rfl⟩
end Go.Proofs.YtnidnipiihhnaaaGreatDoor
