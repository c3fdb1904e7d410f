/- Packed for the hand-in: WAreS -/
import Derived.Test.YtnidnipiihhnaaaGreatDoorY18
namespace Go.Proofs.YtnidnipiihhnaaaGreatDoor
open Go.RowKit Go.Shelf
set_option linter.unusedSimpArgs false
set_option linter.unusedVariables false
set_option maxRecDepth 20000
set_option maxHeartbeats 8000000
theorem Tryz.sizeSt : (Tryz.prog.info? 42).map (·.size) = some 14 := by kernel_rfl
theorem areSt_any (S : Nat → Prop) (fr : Nat) (eg : ∀ args w, (callFunc fr args).run Tryz.prog w = .ok (.enter fr args) w) (p : St → Bool) (xs : List (St)) (v : Value) (lo hi : Nat) (w : World) (hlo : lo ≤ 100) (hhi : hi ≤ 100) (hv : SlAt 14 StE S w xs v)
    (HF : Hid (∀ x ∈ xs, ∀ V, Below w.heap.size w V → ∀ cs, StE S V x cs → Calls Tryz.prog fr #[.agg cs.toArray] V fun e w' => e = .returned (.bool (p x)) ∧ Below V.heap.size V w')) :
    Calls Tryz.prog 28 #[v, .int .i64 lo, .int .i64 hi, .func (.func fr) #[] #[]] w fun e w' => e = .returned (.bool (areB xs lo hi p)) ∧ Below w.heap.size w w' := by
  have HV := hid hv
  obtain ⟨aa, cc, css, rfl, h1, h2, _⟩ := hv
  unfold maxLen at h2
  by_cases hl : lo ≤ xs.length ∧ xs.length ≤ hi
  · have hA : areB xs lo hi p = xs.all p := by unfold areB; rw [decide_eq_true hl, Bool.true_and]
    rw [hA]
    have hl1 : ¬ ((xs.length : Int) < (lo : Int)) := by omega
    have hl2 : ¬ ((hi : Int) < (xs.length : Int)) := by omega
    clear hA hl
    obtain ⟨X, hX⟩ : ∃ X, xs.all p = X := ⟨_, rfl⟩
    rw [hX]
    have HX := hid hX
    clear hX
    generalize (lo : Int) = lo' at hl1 ⊢
    generalize (hi : Int) = hi' at hl2 ⊢
    go_enter Tryz.func28, Tryz.ntmps28
    go_wp2_with fail
    go_loopw [8, 10, 23] (fun _ _ i wr => ∃ (k : Nat), k ≤ xs.length ∧ i = .int .i64 k ∧ Below w.heap.size w wr ∧ Hid ((xs.take k).all p = true)) (fun _ _ i _ => xs.length - (intOf i).toNat)
    case atStart => exact ⟨0, Nat.zero_le _, rfl, Below.refl _ _, hid rfl⟩
    case round =>
      obtain ⟨k, hk, rfl, hbel, HK⟩ := hrel
      have hszr := hbel.size
      by_cases hlt : k < xs.length
      · obtain ⟨x, hx⟩ : ∃ x, xs[k]? = some x := ⟨_, List.getElem?_eq_getElem hlt⟩
        have hlt' : ((k : Int) < (xs.length : Int)) := by omega
        obtain ⟨_, _, _, b, off, cs, rfl, _, hel, hcell⟩ := sl_get (HV.out.to (T := S) (by decide) (R := fun _ => False) (Spares.of_below hbel (fun k h1 h2 => by omega)) (fun b hb _ => ⟨id, hb⟩) (fun _ _ e => e.to (R := fun _ => False) (Spares.of_below hbel (fun k h1 h2 => by omega)) (fun b hb _ => ⟨id, hb⟩))) hx
        have htk : (xs.take (k + 1)).all p = ((xs.take k).all p && p x) := by
          obtain ⟨h1, h2⟩ := List.getElem?_eq_some_iff.1 hx
          rw [List.take_succ_eq_append_getElem h1, h2, List.all_append]
          simp
        have HT := hid htk
        have hxm := List.mem_of_getElem? hx
        have hel0 := hel
        obtain ⟨a1, a2, a3, a4, a5, a6, a7, a8, n1, n2, n3, n4, n5, n6, n7, n8, c1, c2, c3, c4, c5, c6, c7, c8, rfl, _⟩ := hel
        have q0 := hcell 0 _ rfl
        have q1 := hcell 1 _ rfl
        have q2 := hcell 2 _ rfl
        have q3 := hcell 3 _ rfl
        have q4 := hcell 4 _ rfl
        have q5 := hcell 5 _ rfl
        have q6 := hcell 6 _ rfl
        have q7 := hcell 7 _ rfl
        have q8 := hcell 8 _ rfl
        have q9 := hcell 9 _ rfl
        have q10 := hcell 10 _ rfl
        have q11 := hcell 11 _ rfl
        have q12 := hcell 12 _ rfl
        have q13 := hcell 13 _ rfl
        simp only [Nat.add_zero] at q0
        obtain ⟨U, hU, hbU, hzU, hcU⟩ := box8 wr (.cells #[.int .i64 x.k, .string (str8 x.tb), .slice a1 n1 c1, .string (str8 x.prim), .slice a2 n2 c2, .slice a3 n3 c3, .slice a4 n4 c4, .string (str8 x.jn), .slice a5 n5 c5, .slice a6 n6 c6, .slice a7 n7 c7, .slice a8 n8 c8, .bool x.desc, .int .i64 x.lim] 42)
        have kU := fun i => cell_row U wr.heap.size _ _ _ i hcU
        have kU' : U.cell? ⟨wr.heap.size, 0, none⟩ = some (.int .i64 x.k) ∧ U.cell? ⟨wr.heap.size, 1, none⟩ = some (.string (str8 x.tb)) ∧ U.cell? ⟨wr.heap.size, 2, none⟩ = some (.slice a1 n1 c1) ∧ U.cell? ⟨wr.heap.size, 3, none⟩ = some (.string (str8 x.prim)) ∧ U.cell? ⟨wr.heap.size, 4, none⟩ = some (.slice a2 n2 c2) ∧ U.cell? ⟨wr.heap.size, 5, none⟩ = some (.slice a3 n3 c3) ∧ U.cell? ⟨wr.heap.size, 6, none⟩ = some (.slice a4 n4 c4) ∧ U.cell? ⟨wr.heap.size, 7, none⟩ = some (.string (str8 x.jn)) ∧ U.cell? ⟨wr.heap.size, 8, none⟩ = some (.slice a5 n5 c5) ∧ U.cell? ⟨wr.heap.size, 9, none⟩ = some (.slice a6 n6 c6) ∧ U.cell? ⟨wr.heap.size, 10, none⟩ = some (.slice a7 n7 c7) ∧ U.cell? ⟨wr.heap.size, 11, none⟩ = some (.slice a8 n8 c8) ∧ U.cell? ⟨wr.heap.size, 12, none⟩ = some (.bool x.desc) ∧ U.cell? ⟨wr.heap.size, 13, none⟩ = some (.int .i64 x.lim) := ⟨(kU 0).trans rfl, (kU 1).trans rfl, (kU 2).trans rfl, (kU 3).trans rfl, (kU 4).trans rfl, (kU 5).trans rfl, (kU 6).trans rfl, (kU 7).trans rfl, (kU 8).trans rfl, (kU 9).trans rfl, (kU 10).trans rfl, (kU 11).trans rfl, (kU 12).trans rfl, (kU 13).trans rfl⟩
        clear kU
        have hBU := hbel.trans (hbU.mono hszr)
        have HC := hid (HF.out x hxm U hBU _ (hel0.to (R := fun _ => False) (Spares.of_new hbU) (fun b hb _ => ⟨id, hb⟩)))
        have HM := hid hxm
        have HBU := hid hBU
        clear hBU hbU hcU hbel
        clear hcell hx htk hel0 hxm
        cases hp : p x with
        | true =>
          rw [hp] at HC
          have HK2 : Hid ((xs.take (k + 1)).all p = true) := hid (by rw [HT.out, HK.out, hp]; rfl)
          clear HK hp HT
          go_wp2_with (first | (refine wpList_store_row rfl 42 (.tmp 10) (.tmp 26) rfl wr.heap.size #[.int .i64 x.k, .string (str8 x.tb), .slice a1 n1 c1, .string (str8 x.prim), .slice a2 n2 c2, .slice a3 n3 c3, .slice a4 n4 c4, .string (str8 x.jn), .slice a5 n5 c5, .slice a6 n6 c6, .slice a7 n7 c7, .slice a8 n8 c8, .bool x.desc, .int .i64 x.lim] rfl rfl 42 #[.int .i64 0, .string ⟨#[]⟩, .slice none 0 0, .string ⟨#[]⟩, .slice none 0 0, .slice none 0 0, .slice none 0 0, .string ⟨#[]⟩, .slice none 0 0, .slice none 0 0, .slice none 0 0, .slice none 0 0, .bool false, .int .i64 0] (heap_alloc_new wr _) Tryz.sizeSt rfl rfl ?_; rw [alloc_setRow, hU]; clear hU) | fail)
          refine HC.out.mono ?_
          rintro e w2 ⟨rfl, hb2⟩
          have HB2 := hid (HBU.out.trans (hb2.mono HBU.out.size))
          clear hb2 HC
          go_wp2
          go_roundw
          case rel => exact ⟨k + 1, by omega, by go_num, HB2.out, HK2⟩
          case measure => simp [intOf]; omega
        | false =>
          rw [hp] at HC
          have HXF : Hid (X = false) := hid (by
            rw [← HX.out, Bool.eq_false_iff]
            intro h
            have := List.all_eq_true.1 h x HM.out
            rw [hp] at this
            cases this)
          clear HK hp HT
          go_wp2_with (first | (refine wpList_store_row rfl 42 (.tmp 10) (.tmp 26) rfl wr.heap.size #[.int .i64 x.k, .string (str8 x.tb), .slice a1 n1 c1, .string (str8 x.prim), .slice a2 n2 c2, .slice a3 n3 c3, .slice a4 n4 c4, .string (str8 x.jn), .slice a5 n5 c5, .slice a6 n6 c6, .slice a7 n7 c7, .slice a8 n8 c8, .bool x.desc, .int .i64 x.lim] rfl rfl 42 #[.int .i64 0, .string ⟨#[]⟩, .slice none 0 0, .string ⟨#[]⟩, .slice none 0 0, .slice none 0 0, .slice none 0 0, .string ⟨#[]⟩, .slice none 0 0, .slice none 0 0, .slice none 0 0, .slice none 0 0, .bool false, .int .i64 0] (heap_alloc_new wr _) Tryz.sizeSt rfl rfl ?_; rw [alloc_setRow, hU]; clear hU) | fail)
          refine HC.out.mono ?_
          rintro e w2 ⟨rfl, hb2⟩
          have HB2 := hid (HBU.out.trans (hb2.mono HBU.out.size))
          clear hb2 HC
          go_wp2
          go_ret
          exact ⟨by rw [HXF.out]; rfl, HB2.out⟩
      · have hlt' : ¬ ((k : Int) < (xs.length : Int)) := by omega
        have HXT : Hid (X = true) := hid (by rw [← HX.out]; have := HK.out; rw [List.take_of_length_le (by omega)] at this; exact this)
        have HB2 := hid hbel
        clear hbel HK
        go_wp2
        go_ret
        exact ⟨by rw [HXT.out]; rfl, HB2.out⟩
  · have hA : areB xs lo hi p = false := by unfold areB; rw [decide_eq_false hl, Bool.false_and]
    rw [hA]
    clear hA
    by_cases hl1 : xs.length < lo
    · have hl1' : ((xs.length : Int) < (lo : Int)) := by omega
      clear hl hl1
      generalize (lo : Int) = lo' at hl1' ⊢
      go_enter Tryz.func28, Tryz.ntmps28
      go_wp2
      go_ret
      exact ⟨rfl, Below.refl _ _⟩
    · have hl1' : ¬ ((xs.length : Int) < (lo : Int)) := by omega
      have hl2' : ((hi : Int) < (xs.length : Int)) := by omega
      clear hl hl1
      generalize (lo : Int) = lo' at hl1' ⊢
      generalize (hi : Int) = hi' at hl2' ⊢
      go_enter Tryz.func28, Tryz.ntmps28
      go_wp2
      go_ret
      exact ⟨rfl, Below.refl _ _⟩
end Go.Proofs.YtnidnipiihhnaaaGreatDoor
