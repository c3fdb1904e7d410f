/- Packed for the hand-in: WCopy -/
import Derived.Test.YtnidnipiihhnaaaGreatDoorY38
namespace Go.Proofs.YtnidnipiihhnaaaGreatDoor
open Go.RowKit Go.Shelf
set_option linter.unusedSimpArgs false
set_option linter.unusedVariables false
set_option maxRecDepth 20000
set_option maxHeartbeats 8000000
theorem sl_argsC {w : World} {S : Nat → Prop} {xs : List Ex} {v : Value} (h : SlAt 8 ExE S w xs v) : ArgsAt S w xs v := by
  obtain ⟨a, c, css, rfl, h1, h2, h3, h4⟩ := h
  by_cases hne : xs = []
  · subst hne
    exact .nil a c h2
  · obtain ⟨b, off, rfl, hS, hc⟩ := h4 hne
    have hget : ∀ (j : Nat) (x : Ex), xs[j]? = some x → ∃ cs, css[j]? = some cs ∧ ExE S w x cs := fun j x hx => by
      obtain ⟨cs, hcs⟩ : ∃ cs, css[j]? = some cs := ⟨_, List.getElem?_eq_getElem (by rw [h3.1]; exact (List.getElem?_eq_some_iff.1 hx).1)⟩
      exact ⟨cs, hcs, (h3.2 j x cs hx hcs).2⟩
    refine .cons xs b off c (fun j => ((css[j]?.getD [])[7]?).getD .nilIface) hne hS h1 h2 (fun j k op tb nm vk vn vs ys hx => ?_) (fun j k op tb nm vk vn vs ys hx => ?_)
    · obtain ⟨cs, hcs, k', op', tb', nm', vk', vn', vs', ys', aa, nn, cc, he, hcv, ha⟩ := hget j _ hx
      simp only [Ex.mk.injEq, Vl.mk.injEq] at he
      obtain ⟨rfl, rfl, rfl, rfl, ⟨rfl, rfl, rfl⟩, rfl⟩ := he
      have g := fun i u hu => hc j cs hcs i u hu
      rw [hcs, hcv] at *
      exact ⟨g 0 _ rfl, g 1 _ rfl, g 2 _ rfl, g 3 _ rfl, g 4 _ rfl, g 5 _ rfl, g 6 _ rfl, g 7 _ rfl⟩
    · obtain ⟨cs, hcs, k', op', tb', nm', vk', vn', vs', ys', aa, nn, cc, he, hcv, ha⟩ := hget j _ hx
      simp only [Ex.mk.injEq, Vl.mk.injEq] at he
      obtain ⟨rfl, rfl, rfl, rfl, ⟨rfl, rfl, rfl⟩, rfl⟩ := he
      rw [hcs, hcv]
      exact ha
theorem Tryz.infoEx : (Tryz.prog.info? 26).map (fun i => (i.zero, i.size, i.bytes)) = some (some (.agg #[.int .i64 0, .int .i64 0, .string ⟨#[]⟩, .string ⟨#[]⟩, .int .i64 0, .int .i64 0, .string ⟨#[]⟩, .slice none 0 0]), 8, 104) := by kernel_rfl
theorem set7 {w : World} {b : Nat} {a0 a1 a2 a3 a4 a5 a6 a7 : Value} {t : TypeId} (h : w.heap[b]? = some (.cells #[a0, a1, a2, a3, a4, a5, a6, a7] t)) (v : Value) :
    ∃ X, w.setCell ⟨b, 7, none⟩ v = X ∧ X.heap[b]? = some (.cells #[a0, a1, a2, a3, a4, a5, a6, v] t) ∧ Spares (fun k => k = b) w X := by
  refine ⟨_, rfl, ?_, (Spares.refl (fun k => k = b) w).own _ _⟩
  rw [setCell_eq_setRow w b 7 _ t _ v h, setRow_heap w b _ _ t _ h]
  simp only [List.setIfInBounds_toArray, List.set_cons_zero, List.set_cons_succ]
theorem copied_any (S : Nat → Prop) : ∀ (d : Nat) (x : Ex) (v : Value) (w : World), fewB d x = true → ExV S w x v → Calls Tryz.prog 10 #[v] w fun e w' => ∃ u, e = .returned u ∧ ExV (fun b => w.heap.size ≤ b) w' x u ∧ Below w.heap.size w w' := by
  intro d
  induction d with
  | zero =>
    intro x v w hf hx
    cases hf
  | succ d ih =>
    intro x v w hf hx
    obtain ⟨k, op, tb, nm, vk, vn, vs, ys, aa, nn, cc, rfl, rfl, ha⟩ := hx
    obtain ⟨i0, hi, hy0, hy1, hy2⟩ := info_parts Tryz.infoEx
    simp only [fewB, Bool.and_eq_true, decide_eq_true_eq] at hf
    obtain ⟨hl3, _, _, _, hall⟩ := hf
    obtain ⟨W, hW, hbW, hz2, hcW, hcZ⟩ := two w (.cells #[.int .i64 k, .int .i64 op, .string (str8 tb), .string (str8 nm), .int .i64 vk, .int .i64 vn, .string (str8 vs), .slice aa nn cc] 26) (.cells #[.int .i64 0, .int .i64 0, .string ⟨#[]⟩, .string ⟨#[]⟩, .int .i64 0, .int .i64 0, .string ⟨#[]⟩, .slice none 0 0] 26)
    have hzW : w.heap.size < W.heap.size := by omega
    have hsl := args_sl ha
    have HV := hid (hsl.to (T := S) (by decide) (R := fun _ => False) (Spares.of_new hbW) (fun b hb _ => ⟨id, hb⟩) (fun _ _ e => e.to (R := fun _ => False) (Spares.of_new hbW) (fun b hb _ => ⟨id, hb⟩)))
    obtain ⟨a', c', css0, hv, h1, h2, _⟩ := hsl
    simp only [Value.slice.injEq] at hv
    obtain ⟨rfl, rfl, rfl⟩ := hv
    unfold maxLen at h2
    have k0 := cells8 hcW
    have HC0 := hid hcW
    have HZ0 := hid hcZ
    have HB := hid hbW
    have HI := hid (fun y (hy : y ∈ ys) u V (hV : ExV S V y u) => ih y u V (List.all_eq_true.1 hall y hy) hV)
    clear ih ha hbW hcW hcZ hall
    go_enter Tryz.func10, Tryz.ntmps10
    go_wp2_with fail
    try rw [hW]
    go_loopw [3, 4] (fun l i wr => ∃ (j : Nat) (css : List (List Value)), j ≤ ys.length ∧ i = .int .i64 j ∧ Below W.heap.size W wr ∧ wr.ownsRow W.heap.size 26 8 l j css.flatten ∧ Els 8 ExE (fun b => W.heap.size ≤ b ∧ l.ownBlock ≠ some b) wr (ys.take j) css) (fun _ i _ => ys.length - (intOf i).toNat)
    case atStart => exact ⟨0, [], Nat.zero_le _, rfl, Below.refl _ _, World.ownsRow_nil _ _ _ _, Els.nil⟩
    case round =>
      obtain ⟨j, css, hj, rfl, hbel, hown, hels⟩ := hrel
      obtain ⟨va, vcap, hvf⟩ : ∃ va vcap, u3 = .slice va j vcap := by
        rcases hown.2 with ⟨rfl, hn⟩ | ⟨g', cap, cur, rfl, _⟩
        · exact ⟨_, _, by rw [hn]⟩
        · exact ⟨_, _, rfl⟩
      subst hvf
      have HOW := hid hown
      have HEL := hid hels
      have HBR := hid hbel
      have hzR : W.heap.size ≤ wr.heap.size := hbel.size
      have HCR := hid ((hbel.block w.heap.size hzW).trans HC0.out)
      have kR := cells8 HCR.out
      clear hown hels
      by_cases hlt : j < ys.length
      · obtain ⟨y, hy⟩ : ∃ y, ys[j]? = some y := ⟨_, List.getElem?_eq_getElem hlt⟩
        have hlt' : ((j : Int) < (ys.length : Int)) := by omega
        obtain ⟨_, _, _, b, off, cs, rfl, _, hel, hcell⟩ := sl_get (HV.out.to (T := S) (by decide) (R := fun _ => False) (Spares.of_new hbel) (fun b hb _ => ⟨id, hb⟩) (fun _ _ e => e.to (R := fun _ => False) (Spares.of_new hbel) (fun b hb _ => ⟨id, hb⟩))) hy
        have HC := hid (HI.out y (List.mem_of_getElem? hy) _ wr hel.v)
        have HTK : Hid (ys.take (j + 1) = ys.take j ++ [y]) := hid (by rw [List.take_add_one, hy]; rfl)
        obtain ⟨k1, op1, tb1, nm1, vk1, vn1, vs1, ys1, aa1, nn1, cc1, _, rfl, _⟩ := hel
        have q0 := hcell 0 _ rfl
        have q1 := hcell 1 _ rfl
        have q2 := hcell 2 _ rfl
        have q3 := hcell 3 _ rfl
        have q4 := hcell 4 _ rfl
        have q5 := hcell 5 _ rfl
        have q6 := hcell 6 _ rfl
        have q7 := hcell 7 _ rfl
        simp only [Nat.add_zero] at q0
        clear hbel hcell hy
        go_wp2_with fail
        refine HC.out.mono ?_
        rintro e w1 ⟨u, rfl, hu, hb1⟩
        obtain ⟨k2, op2, tb2, nm2, vk2, vn2, vs2, ys2, aa2, nn2, cc2, hye, rfl, ha2⟩ := hu
        obtain ⟨U, hU, hbU, hzU, hcA, hcU⟩ := two w1 (.cells #[.int .i64 k2, .int .i64 op2, .string (str8 tb2), .string (str8 nm2), .int .i64 vk2, .int .i64 vn2, .string (str8 vs2), .slice aa2 nn2 cc2] 26) (.cells #[.int .i64 k2, .int .i64 op2, .string (str8 tb2), .string (str8 nm2), .int .i64 vk2, .int .i64 vn2, .string (str8 vs2), .slice aa2 nn2 cc2] 26)
        have hs1 := hb1.size
        have hBU : Below wr.heap.size wr U := hb1.trans (hbU.mono hs1)
        have hsU := hbU.size
        have kA : ∀ o, (w1.alloc o).heap[w1.heap.size]? = some o := fun o => heap_alloc_new w1 o
        have hown1 : U.ownsRow W.heap.size 26 8 (.slice va j vcap) j css.flatten := Spares.row (Spares.of_new (S := fun _ => False) hBU) HOW.out (fun _ _ => id)
        have hnew : ∀ i u, [.int .i64 k2, .int .i64 op2, .string (str8 tb2), .string (str8 nm2), .int .i64 vk2, .int .i64 vn2, .string (str8 vs2), .slice aa2 nn2 cc2][i]? = some u → U.cell? ((⟨w1.heap.size + 1, 0, none⟩ : Addr).add i) = some u := fun i u hu => by
          rw [Addr.add_lit, Nat.zero_add, cell_of_row _ _ _ _ _ _ hcU]
          simpa using hu
        have hone : ∀ u ∈ ([.int .i64 k2, .int .i64 op2, .string (str8 tb2), .string (str8 nm2), .int .i64 vk2, .int .i64 vn2, .string (str8 vs2), .slice aa2 nn2 cc2] : List Value), u.oneCell' = true := by intro u hu; simp at hu; rcases hu with rfl | rfl | rfl | rfl | rfl | rfl | rfl | rfl <;> rfl
        have HBU : Hid (Below W.heap.size W U) := hid (HBR.out.trans (hBU.mono HBR.out.size))
        have hwU : W.heap.size ≤ U.heap.size := HBU.out.size
        have HELU : Hid (Els 8 ExE (fun b => W.heap.size ≤ b ∧ (Value.slice va j vcap).ownBlock ≠ some b ∧ b < U.heap.size) U (ys.take (j + 1)) (css ++ [[.int .i64 k2, .int .i64 op2, .string (str8 tb2), .string (str8 nm2), .int .i64 vk2, .int .i64 vn2, .string (str8 vs2), .slice aa2 nn2 cc2]])) := hid (by
          rw [HTK.out]
          refine Els.snoc ?_ rfl ?_
          · exact HEL.out.to (fun z cs e => e.to (R := fun _ => False) (Spares.of_new hBU) (fun b hb hlt => ⟨id, hb.1, hb.2, by omega⟩))
          · refine ExE.to (S := fun b => wr.heap.size ≤ b) ⟨k2, op2, tb2, nm2, vk2, vn2, vs2, ys2, aa2, nn2, cc2, hye, rfl, ha2⟩ (R := fun _ => False) (Spares.of_new hbU) (fun b hb hlt => ⟨id, Nat.le_trans hzR hb, fun e => ?_, by omega⟩)
            have := (HOW.out.lt b e).2
            omega)
        have hj3 : j < 3 := by omega
        clear hb1 hbU hcA hcU HC HEL hye ha2 hBU
        go_wp2_with (first
          | (at_builtin; (try rw [hU]); refine wpList_append_where _ rfl (.tmp 19) (.tmp 21) 24 rfl W.heap.size 26 i0 (.agg #[.int .i64 0, .int .i64 0, .string ⟨#[]⟩, .string ⟨#[]⟩, .int .i64 0, .int .i64 0, .string ⟨#[]⟩, .slice none 0 0]) 8 104 Tryz.underlying24 hi hy0 hy1 hy2 rfl (by decide) _ _ _ rfl hown1 ⟨w1.heap.size + 1, 0, none⟩ 1 [.int .i64 k2, .int .i64 op2, .string (str8 tb2), .string (str8 nm2), .int .i64 vk2, .int .i64 vn2, .string (str8 vs2), .slice aa2 nn2 cc2] rfl rfl hnew hone (by unfold maxLen; omega) (by omega) hwU ?_; intro v3 w3 hown3 hg3 hwh3
             have hSp : Spares (fun b => (Value.slice va j vcap).ownBlock = some b) U w3 := Spares.of_grown hg3 (fun k hk => hk)
             have HB3 : Hid (Below W.heap.size W w3) := hid (HBU.out.trans (hSp.below (fun i hi => (hown1.lt i hi).1) hwU))
             have HOW3 := hid hown3
             have HEL3 : Hid (Els 8 ExE (fun b => W.heap.size ≤ b ∧ v3.ownBlock ≠ some b) w3 (ys.take (j + 1)) (css ++ [[.int .i64 k2, .int .i64 op2, .string (str8 tb2), .string (str8 nm2), .int .i64 vk2, .int .i64 vn2, .string (str8 vs2), .slice aa2 nn2 cc2]])) := hid (HELU.out.to (fun y cs e => e.to hSp (fun b hb _ => ⟨hb.2.1, hb.1, fun e3 => by
               rcases hwh3 with h | h
               · exact hb.2.1 (h ▸ e3)
               · rw [h] at e3; have := hb.2.2; simp at e3; omega⟩)))
             clear hown3 hg3 hwh3 hSp hown1 hnew hone)
          | fail)
        go_roundw
        case rel =>
          refine ⟨j + 1, css ++ [[.int .i64 k2, .int .i64 op2, .string (str8 tb2), .string (str8 nm2), .int .i64 vk2, .int .i64 vn2, .string (str8 vs2), .slice aa2 nn2 cc2]], by omega, by go_num, HB3.out, ?_, HEL3.out⟩
          have e4 := HOW3.out
          rw [List.flatten_append]
          simpa using e4
        case measure => simp [intOf]; omega
      · have hlt' : ¬ ((j : Int) < (ys.length : Int)) := by omega
        obtain rfl : j = ys.length := by omega
        obtain ⟨X, hX, hcX, hsX⟩ := set7 HCR.out (.slice va ys.length vcap)
        have hcXZ := (hsX.block (w.heap.size + 1) (by omega) (by omega)).trans ((hbel.block (w.heap.size + 1) hz2).trans HZ0.out)
        have kR := cells8f HCR.out
        have kZ := cells8f ((hbel.block (w.heap.size + 1) hz2).trans HZ0.out)
        have hsY : Spares (fun k => k = w.heap.size + 1) X (X.setRow (w.heap.size + 1) #[.int .i64 k, .int .i64 op, .string (str8 tb), .string (str8 nm), .int .i64 vk, .int .i64 vn, .string (str8 vs), .slice va ys.length vcap]) := Spares.setRow (S := fun k => k = w.heap.size + 1) (Spares.refl _ X) (p := w.heap.size + 1) (.inl rfl) _
        have hcY := setRow_heap X (w.heap.size + 1) _ #[.int .i64 k, .int .i64 op, .string (str8 tb), .string (str8 nm), .int .i64 vk, .int .i64 vn, .string (str8 vs), .slice va ys.length vcap] _ _ hcXZ
        have HX := hid hX
        have HXZ := hid hcXZ
        have hel := HEL.out
        rw [List.take_of_length_le (Nat.le_refl _)] at hel
        have hax : ArgsAt (fun b => W.heap.size ≤ b) X ys (.slice va ys.length vcap) := sl_argsC ((SlAt.of_owns (S := fun b => W.heap.size ≤ b) (by decide) HOW.out (hel.to (fun z cs e => e.to (R := fun _ => False) (Spares.refl _ _) (fun b hb _ => ⟨id, hb.1⟩))) (fun b hb => (HOW.out.lt b hb).1)).to (T := fun b => W.heap.size ≤ b) (by decide) hsX (fun b hb _ => ⟨by omega, hb⟩) (fun _ _ e => e.to hsX (fun b hb _ => ⟨by omega, hb⟩)))
        have HAY := hid (hax.to (T := fun b => w.heap.size ≤ b) hsY (fun b hb _ => ⟨by omega, by omega⟩))
        have hwr : w.heap.size ≤ wr.heap.size := by omega
        have hbX : Below w.heap.size w X := (HB.out.trans (hbel.mono HB.out.size)).trans (hsX.below (fun i hi => by omega) hwr)
        have HBY := hid (hbX.trans (hsY.below (fun i hi => by omega) hbX.size))
        have HCY := hid hcY
        clear hX hcX hsX hel HEL HOW HI HV hbel hlt hcXZ hsY hcY hax hbX HBR HCR
        go_wp2
        rw [HX.out, set8 HXZ.out]
        have kY := cells8 HCY.out
        exact bodyPost_ret (v := .agg #[.int .i64 k, .int .i64 op, .string (str8 tb), .string (str8 nm), .int .i64 vk, .int .i64 vn, .string (str8 vs), .slice va ys.length vcap]) (by simp [results, Tryz.results10, go_sem, kY]) rfl ⟨_, rfl, ⟨k, op, tb, nm, vk, vn, vs, ys, va, ys.length, vcap, rfl, rfl, HAY.out⟩, HBY.out⟩
end Go.Proofs.YtnidnipiihhnaaaGreatDoor
