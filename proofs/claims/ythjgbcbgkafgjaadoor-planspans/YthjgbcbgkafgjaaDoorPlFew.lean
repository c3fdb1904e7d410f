/- Contract of the law's few (stage 15; tools' mkfew out of WFew). -/
import Derived.Test.YthjgbcbgkafgjaaDoorPlPure
namespace Go.Proofs.YthjgbcbgkafgjaaDoor
open Go.RowKit Go.Shelf
set_option linter.unusedVariables false
set_option linter.unusedSimpArgs false
set_option maxRecDepth 20000

theorem i64F : ∀ n : Int, 0 ≤ n → n < 2 ^ 62 → IntKind.i64.wrap n = n := by
  intro n h0 h1
  rw [IntKind.wrap_i64]
  simp only [Int.reducePow] at h1
  omega

theorem all_take_succ {α : Type} (p : α → Bool) {xs : List α} {k : Nat} {x : α} (hx : xs[k]? = some x) : (xs.take (k + 1)).all p = ((xs.take k).all p && p x) := by
  obtain ⟨h1, h2⟩ := List.getElem?_eq_some_iff.1 hx
  rw [List.take_succ_eq_append_getElem h1, h2, List.all_append]
  simp

theorem all_take_false {α : Type} (p : α → Bool) {xs : List α} {k n : Nat} {x : α} (hx : xs[k]? = some x) (hk : k < n) (hp : p x = false) : (xs.take n).all p = false := by
  rw [Bool.eq_false_iff]
  intro h
  have hm : x ∈ xs.take n := by
    obtain ⟨h1, h2⟩ := List.getElem?_eq_some_iff.1 hx
    rw [← h2]
    exact List.mem_of_getElem? (i := k) (by rw [List.getElem?_take, if_pos hk]; exact List.getElem?_eq_getElem h1)
  have := List.all_eq_true.1 h x hm
  rw [hp] at this
  cases this


set_option maxHeartbeats 4000000 in
theorem few15_any (S : Nat → Prop) : ∀ (d : Nat) (x : Ex) (v : Value) (w : World), d ≤ 100 → RgE x → ExV S w x v → Calls Tryd.prog 8 #[v, .int .i64 d] w fun e w' => e = .returned (.bool (fewP d x)) ∧ Below w.heap.size w w' := by
  intro d
  induction d with
  | zero =>
    intro x v w hd hR hx
    obtain ⟨k, op, tb, nm, vk, vn, vs, ys, aa, nn, cc, rfl, rfl, ha⟩ := hx
    obtain ⟨W, hW, hbW, hzW, hcW⟩ := box8 w (.cells #[.int .i64 k, .int .i64 op, .string (str8 tb), .string (str8 nm), .int .i64 vk, .int .i64 vn, .string (str8 vs), .slice aa nn cc] 26)
    have k0 := cells8 hcW
    have HB := hid hbW
    clear hbW hcW ha hR
    show Calls Tryd.prog 8 _ w fun e w' => e = .returned (.bool false) ∧ _
    go_enter Tryd.func8, Tryd.ntmps8
    go_wp2
    go_ret
    exact ⟨rfl, HB.out⟩
  | succ d ih =>
    intro x v w hd hR hx
    obtain ⟨k, op, tb, nm, vk, vn, vs, ys, aa, nn, cc, rfl, rfl, ha⟩ := hx
    obtain ⟨W, hW, hbW, hzW, hcW⟩ := box8 w (.cells #[.int .i64 k, .int .i64 op, .string (str8 tb), .string (str8 nm), .int .i64 vk, .int .i64 vn, .string (str8 vs), .slice aa nn cc] 26)
    have hsl := args_sl ha
    have HV := hid (hsl.to (T := S) (by decide) (R := fun _ => False) (Spares.of_new hbW) (fun b hb _ => ⟨id, hb⟩) (fun _ _ e => e.to (R := fun _ => False) (Spares.of_new hbW) (fun b hb _ => ⟨id, hb⟩)))
    obtain ⟨a', c', css, hv, h1, h2, _⟩ := hsl
    simp only [Value.slice.injEq] at hv
    obtain ⟨rfl, rfl, rfl⟩ := hv
    unfold maxLen at h2
    have hRy : ∀ y ∈ ys, RgE y := by cases hR with | mk _ _ _ _ _ _ _ _ _ _ _ hx => exact hx
    have k0 := cells8 hcW
    have HC0 := hid hcW
    have HB := hid hbW
    have hd1 : ((((d + 1 : Nat) : Int)) == 0) = false := by
      rw [beq_eq_false_iff_ne]
      omega
    have hdm : IntKind.i64.wrap (((d + 1 : Nat) : Int) - 1) = (d : Int) := by
      have e : ((d + 1 : Nat) : Int) - 1 = (d : Int) := by omega
      rw [e]
      exact i64F _ (by omega) (by simp only [Int.reducePow]; omega)
    have HI := hid (fun y (hy : y ∈ ys) u V (hV : ExV S V y u) => ih y u V (by omega) (hRy y hy) hV)
    clear ih hR hRy ha hbW hcW
    generalize (((d + 1 : Nat) : Int)) = D at hd1 hdm ⊢
    show Calls Tryd.prog 8 _ w fun e w' => e = .returned (.bool (decide (ys.length ≤ 3) && ys.all (fewP d))) ∧ _
    by_cases c1 : ys.length ≤ 3
    · rw [decide_eq_true c1, Bool.true_and]
      have c1' : ¬ ((3 : Int) < (ys.length : Int)) := by omega
      skip
      obtain ⟨X, hX⟩ : ∃ X, ys.all (fewP d) = X := ⟨_, rfl⟩
      rw [hX]
      have HX := hid hX
      clear hX
      go_enter Tryd.func8, Tryd.ntmps8
      go_wp2_with fail
      go_loopw [5, 6] (fun i _ wr => ∃ (j : Nat), j ≤ ys.length ∧ i = .int .i64 j ∧ Below W.heap.size W wr ∧ Hid ((ys.take j).all (fewP d) = true)) (fun i _ _ => ys.length - (intOf i).toNat)
      case atStart => exact ⟨0, Nat.zero_le _, rfl, Below.refl _ _, hid rfl⟩
      case round =>
        obtain ⟨j, hj, rfl, hbel, HK⟩ := hrel
        have kW := cells8 ((hbel.block w.heap.size hzW).trans HC0.out)
        by_cases hlt : j < ys.length
        · obtain ⟨y, hy⟩ : ∃ y, ys[j]? = some y := ⟨_, List.getElem?_eq_getElem hlt⟩
          have hlt' : ((j : Int) < (ys.length : Int)) := by omega
          obtain ⟨_, _, _, b, off, cs, rfl, _, hel, hcell⟩ := sl_get (HV.out.to (T := S) (by decide) (R := fun _ => False) (Spares.of_new hbel) (fun b hb _ => ⟨id, hb⟩) (fun _ _ e => e.to (R := fun _ => False) (Spares.of_new hbel) (fun b hb _ => ⟨id, hb⟩))) hy
          have HC := hid (HI.out y (List.mem_of_getElem? hy) _ wr hel.v)
          have HT := hid (all_take_succ (fewP d) hy)
          have HFL := hid (fun hp => all_take_false (fewP d) (n := ys.length) hy hlt hp)
          obtain ⟨k1, op1, tb1, nm1, vk1, vn1, vs1, ys1, aa1, nn1, cc1, _, rfl, _⟩ := hel
          have q0 := hcell 0 _ rfl
          have q1 := hcell 1 _ rfl
          have q2 := hcell 2 _ rfl
          have q3 := hcell 3 _ rfl
          have q4 := hcell 4 _ rfl
          have q5 := hcell 5 _ rfl
          have q6 := hcell 6 _ rfl
          have q7 := hcell 7 _ rfl
          simp only [Nat.add_zero] at q0
          have HBR := hid hbel
          clear hbel hcell hy
          cases hp : fewP d y with
          | true =>
            rw [hp] at HC HT
            have HK2 : Hid ((ys.take (j + 1)).all (fewP d) = true) := hid (by rw [HT.out, HK.out]; rfl)
            clear HK hp HT HFL
            go_wp2_with fail
            refine HC.out.mono ?_
            rintro e w2 ⟨rfl, hb2⟩
            have HB2 := htr HBR hb2
            clear hb2 HC
            go_wp2
            go_roundw
            case rel => exact ⟨j + 1, by omega, by go_num, HB2.out, HK2⟩
            case measure => simp [intOf]; omega
          | false =>
            rw [hp] at HC
            have HXF : Hid (X = false) := hid (by
              rw [← HX.out]
              have := HFL.out hp
              rw [List.take_of_length_le (Nat.le_refl _)] at this
              exact this)
            clear HK hp HT HFL
            go_wp2_with fail
            refine HC.out.mono ?_
            rintro e w2 ⟨rfl, hb2⟩
            have HB2 : Hid (Below w.heap.size w w2) := hid (HB.out.trans ((HBR.out.trans (hb2.mono HBR.out.size)).mono HB.out.size))
            clear hb2 HC
            go_wp2
            go_ret
            exact ⟨by rw [HXF.out]; rfl, HB2.out⟩
        · have hlt' : ¬ ((j : Int) < (ys.length : Int)) := by omega
          have HXT : Hid (X = true) := hid (by rw [← HX.out]; have := HK.out; rw [List.take_of_length_le (by omega)] at this; exact this)
          have HB2 := htr HB hbel
          clear hbel HK
          go_wp2
          go_ret
          exact ⟨by rw [HXT.out]; rfl, HB2.out⟩
    · rw [decide_eq_false c1, Bool.false_and]
      have c1' : ((3 : Int) < (ys.length : Int)) := by omega
      clear c1 HI HV HC0
      go_enter Tryd.func8, Tryd.ntmps8
      go_wp2
      go_ret
      exact ⟨rfl, HB.out⟩
end Go.Proofs.YthjgbcbgkafgjaaDoor
