/- Packed for the hand-in: WSmall WFew -/
import Derived.Test.YtnidnipiihhnaaaGreatDoorY37
import Derived.Test.YtnidnipiihhnaaaGreatDoorY23
import Derived.Test.YtnidnipiihhnaaaGreatDoorY36
namespace Go.Proofs.YtnidnipiihhnaaaGreatDoor
open Go.RowKit Go.Shelf
set_option linter.unusedSimpArgs false
set_option linter.unusedVariables false
set_option maxRecDepth 20000
set_option maxHeartbeats 8000000
theorem small_neg : exprA (exOf 5 (exVal ⟨1, 5, []⟩)) = ([45, 32, 40, 32, 53, 32, 41], 0) :=
  (exprA_tm (.neg (.val ⟨1, 5, []⟩)) (show valOk ⟨1, 5, []⟩ = true by decide)).trans (show srcA (Tm.neg (.val ⟨1, 5, []⟩)).tk (((Tm.neg (.val ⟨1, 5, []⟩)).dp : Nat) : Int) = ([45, 32, 40, 32, 53, 32, 41], 0) by first | kernel_rfl | rfl | decide +kernel)
theorem small_drop : scrA [{ zSt 2 with tb := [116] }] = ([68, 82, 79, 80, 32, 84, 65, 66, 76, 69, 32, 116], 0) := by kernel_rfl
theorem small10_any (w : World) (hT : TabW w) : Calls Tryz.prog 8 #[] w fun e w' => e = .returned (.bool true) ∧ Below w.heap.size w w' := by
  obtain ⟨W, hW, hbW, hzW, hcW⟩ := box8 w (.cells #[.int .i64 1, .int .i64 0, .string ⟨#[]⟩, .string ⟨#[]⟩, .int .i64 1, .int .i64 5, .string ⟨#[]⟩, .slice none 0 0] 26)
  obtain ⟨V, hV, hbV, hzV, hcV⟩ := box8 W (.cells #[.int .i64 1, .int .i64 0, .string ⟨#[]⟩, .string ⟨#[]⟩, .int .i64 1, .int .i64 5, .string ⟨#[]⟩, .slice none 0 0] 26)
  have k0 := cells8 hcW
  have hBV : Below w.heap.size w V := hbW.trans (hbV.mono hbW.size)
  have hxa : ExE (fun _ => True) V (exVal ⟨1, 5, []⟩) [.int .i64 1, .int .i64 0, .string ⟨#[]⟩, .string ⟨#[]⟩, .int .i64 1, .int .i64 5, .string ⟨#[]⟩, .slice none 0 0] := ⟨1, 0, [], [], 1, 5, [], [], none, 0, 0, rfl, rfl, .nil none 0 (by unfold maxLen; omega)⟩
  have kV := cells8 hcV
  have hargs : ArgsAt (fun _ => True) V [exVal ⟨1, 5, []⟩] (.slice (some ⟨W.heap.size, 0, none⟩) 1 1) := by
    refine .cons [exVal ⟨1, 5, []⟩] W.heap.size 0 1 (fun _ => .slice none 0 0) (by simp) trivial (by simp) (by unfold maxLen; omega) (fun j k op tb nm vk vn vs ys hx => ?_) (fun j k op tb nm vk vn vs ys hx => ?_)
    · match j, hx with
      | 0, hx =>
        simp only [exVal, List.getElem?_cons_zero, Option.some.injEq, Ex.mk.injEq, Vl.mk.injEq] at hx
        obtain ⟨rfl, rfl, rfl, rfl, ⟨rfl, rfl, rfl⟩, rfl⟩ := hx
        exact kV
    · match j, hx with
      | 0, hx =>
        simp only [exVal, List.getElem?_cons_zero, Option.some.injEq, Ex.mk.injEq, Vl.mk.injEq] at hx
        obtain ⟨rfl, rfl, rfl, rfl, ⟨rfl, rfl, rfl⟩, rfl⟩ := hx
        exact .nil none 0 (by unfold maxLen; omega)
  have hr5 : rightE (exOf 5 (exVal ⟨1, 5, []⟩)) = true := right_tm (.neg (.val ⟨1, 5, []⟩)) (show valOk ⟨1, 5, []⟩ = true by decide)
  have HE : Hid (Calls Tryz.prog 11 #[.agg #[.int .i64 5, .int .i64 0, .string ⟨#[]⟩, .string ⟨#[]⟩, .int .i64 0, .int .i64 0, .string ⟨#[]⟩, .slice (some ⟨W.heap.size, 0, none⟩) 1 1]] V fun e w' => e = .returned (.tuple #[.string ⟨#[45, 32, 40, 32, 53, 32, 41]⟩, .int .i64 0]) ∧ Below V.heap.size V w') := hid (by
    have := printExpr_any (fun _ => True) (exOf 5 (exVal ⟨1, 5, []⟩)) (.agg #[.int .i64 5, .int .i64 0, .string ⟨#[]⟩, .string ⟨#[]⟩, .int .i64 0, .int .i64 0, .string ⟨#[]⟩, .slice (some ⟨W.heap.size, 0, none⟩) 1 1]) V (hT.on hBV) (right_rg hr5) ⟨5, 0, [], [], 0, 0, [], [exVal ⟨1, 5, []⟩], _, 1, 1, rfl, rfl, hargs⟩ (fun _ => by
      have e : exZ (exOf 5 (exVal ⟨1, 5, []⟩)) = 2 := by
        unfold exZ
        rw [show exOf 5 (exVal ⟨1, 5, []⟩) = (Tm.neg (.val ⟨1, 5, []⟩)).ex from rfl, tmE_ex (.neg (.val ⟨1, 5, []⟩)) (show valOk ⟨1, 5, []⟩ = true by decide)]
        rfl
      rw [e]
      decide)
    rw [small_neg] at this
    exact this)
  have hst : StE (fun _ => True) w { zSt 2 with tb := [116] } [.int .i64 2, .string ⟨#[116]⟩, .slice none 0 0, .string ⟨#[]⟩, .slice none 0 0, .slice none 0 0, .slice none 0 0, .string ⟨#[]⟩, .slice none 0 0, .slice none 0 0, .slice none 0 0, .slice none 0 0, .bool false, .int .i64 (-1)] := by
    have n : ArgsAt (fun _ => True) w [] (.slice none 0 0) := .nil none 0 (by unfold maxLen; omega)
    exact ⟨none, none, none, none, none, none, none, none, 0, 0, 0, 0, 0, 0, 0, 0, 0, 0, 0, 0, 0, 0, 0, 0, rfl, SlAt.nil, SlAt.nil, SlAt.nil, SlAt.nil, n, n, n, n⟩
  have HSc : Hid (∀ Z, Below w.heap.size w Z → Calls Tryz.prog 15 #[.slice (some ⟨Z.heap.size, 0, none⟩) 1 1] (Z.alloc (.cells #[.int .i64 2, .string ⟨#[116]⟩, .slice none 0 0, .string ⟨#[]⟩, .slice none 0 0, .slice none 0 0, .slice none 0 0, .string ⟨#[]⟩, .slice none 0 0, .slice none 0 0, .slice none 0 0, .slice none 0 0, .bool false, .int .i64 (-1)] 42)) fun e w' => e = .returned (.tuple #[.string ⟨#[68, 82, 79, 80, 32, 84, 65, 66, 76, 69, 32, 116]⟩, .int .i64 0]) ∧ Below w.heap.size w w') := hid (fun Z hZ => by
    obtain ⟨U, hU, hbU, hzU, hcU⟩ := box8 Z (.cells #[.int .i64 2, .string ⟨#[116]⟩, .slice none 0 0, .string ⟨#[]⟩, .slice none 0 0, .slice none 0 0, .slice none 0 0, .string ⟨#[]⟩, .slice none 0 0, .slice none 0 0, .slice none 0 0, .slice none 0 0, .bool false, .int .i64 (-1)] 42)
    rw [hU]
    have hBU := hZ.trans (hbU.mono hZ.size)
    have hstU := hst.to (R := fun _ => False) (T := fun _ => True) (Spares.of_new hBU) (fun b _ _ => ⟨id, trivial⟩)
    have hsl : SlAt 14 StE (fun _ => True) U [{ zSt 2 with tb := [116] }] (.slice (some ⟨Z.heap.size, 0, none⟩) 1 1) := by
      refine ⟨_, 1, [_], rfl, by simp, by unfold maxLen; omega, Els.nil.snoc (by rfl) hstU, fun _ => ⟨Z.heap.size, 0, rfl, trivial, fun j cs hj i u hu => ?_⟩⟩
      match j, hj with
      | 0, hj =>
        simp only [List.nil_append, List.getElem?_cons_zero, Option.some.injEq] at hj
        subst hj
        rw [Nat.zero_mul, Nat.zero_add, cell_row _ _ _ _ _ _ hcU]
        rw [← List.getElem?_toArray] at hu
        exact hu
    have := printScript_any (fun _ => True) [{ zSt 2 with tb := [116] }] _ U (hT.on hBU) (fun s hs => by rw [List.mem_singleton.1 hs]; exact right_rgS (by decide)) hsl (fun _ s hs _ e he => by rw [List.mem_singleton.1 hs] at he; cases he)
    rw [small_drop] at this
    exact this.mono fun e w' ⟨h1, h2⟩ => ⟨h1, hBU.trans (h2.mono hBU.size)⟩)
  have HBV := hid hBV
  have HWE := hid hW
  have HVE := hid hV
  have hWs : W.heap.size = w.heap.size + 1 := by rw [← hW]; simp
  rw [hWs] at HE
  clear hT hbW hcW hbV hcV hBV hxa kV hargs hr5 hst hW hV hWs hzV hzW k0
  go_enter Tryz.func8, Tryz.ntmps8
  go_wp2_with fail
  rw [HWE.out, HVE.out]
  refine HE.out.mono ?_
  rintro e w1 ⟨rfl, hb1⟩
  have HB1 := hid (HBV.out.trans (hb1.mono HBV.out.size))
  have HS1 := hid (HSc.out w1 HB1.out)
  clear hb1 HE HSc
  go_wp2_with fail
  refine HS1.out.mono ?_
  rintro e w2 ⟨rfl, hb2⟩
  have HB2 := hid hb2
  clear hb2 HS1
  go_wp2
  go_ret
  exact ⟨by simp, HB2.out⟩
theorem i64F : ∀ n : Int, 0 ≤ n → n < 2 ^ 62 → IntKind.i64.wrap n = n := by
  intro n h0 h1
  rw [IntKind.wrap_i64]
  simp only [Int.reducePow] at h1
  omega
def fewB : Nat → Ex → Bool
  | 0, _ => false
  | d + 1, .mk _ _ tb nm v xs => decide (xs.length ≤ 3) && (decide (tb.length ≤ 4096) && (decide (nm.length ≤ 4096) && (decide (v.s.length ≤ 4096) && xs.all (fewB d))))
theorem few_tm : ∀ (d : Nat) (t : Tm), t.ok → fewB d t.ex = true → t.sz + 1 ≤ 2 ^ d
  | 0, t, _, h => by cases h
  | d + 1, .val v, _, h => by
    show 1 + 1 ≤ 2 ^ (d + 1)
    have := Nat.one_le_two_pow (n := d)
    omega
  | d + 1, .col _ _, _, h => by
    show 1 + 1 ≤ 2 ^ (d + 1)
    have := Nat.one_le_two_pow (n := d)
    omega
  | d + 1, .op o a b, hok, h => by
    have h' : fewB (d + 1) (.mk 3 o [] [] zV [a.ex, b.ex]) = true := h
    simp only [fewB, Bool.and_eq_true, List.all_cons, List.all_nil, Bool.and_true] at h'
    have h1 := few_tm d a hok.2.2.1 h'.2.2.2.2.1
    have h2 := few_tm d b hok.2.2.2 h'.2.2.2.2.2
    show a.sz + b.sz + 1 + 1 ≤ 2 ^ (d + 1)
    omega
  | d + 1, .not a, hok, h => by
    have h' : fewB (d + 1) (.mk 4 0 [] [] zV [a.ex]) = true := h
    simp only [fewB, Bool.and_eq_true, List.all_cons, List.all_nil, Bool.and_true] at h'
    have h1 := few_tm d a hok.2 h'.2.2.2.2
    have := Nat.one_le_two_pow (n := d)
    show a.sz + 1 + 1 ≤ 2 ^ (d + 1)
    omega
  | d + 1, .neg a, hok, h => by
    have h' : fewB (d + 1) (.mk 5 0 [] [] zV [a.ex]) = true := h
    simp only [fewB, Bool.and_eq_true, List.all_cons, List.all_nil, Bool.and_true] at h'
    have h1 := few_tm d a hok h'.2.2.2.2
    have := Nat.one_le_two_pow (n := d)
    show a.sz + 1 + 1 ≤ 2 ^ (d + 1)
    omega
  | d + 1, .nul a, hok, h => by
    have h' : fewB (d + 1) (.mk 6 0 [] [] zV [a.ex]) = true := h
    simp only [fewB, Bool.and_eq_true, List.all_cons, List.all_nil, Bool.and_true] at h'
    have h1 := few_tm d a hok h'.2.2.2.2
    have := Nat.one_le_two_pow (n := d)
    show a.sz + 1 + 1 ≤ 2 ^ (d + 1)
    omega
  | 1, .nnul a, hok, h => by
    have h' : fewB 1 (.mk 4 0 [] [] zV [.mk 6 0 [] [] zV [a.ex]]) = true := h
    simp [fewB] at h'
  | d + 2, .nnul a, hok, h => by
    have h' : fewB (d + 2) (.mk 4 0 [] [] zV [.mk 6 0 [] [] zV [a.ex]]) = true := h
    simp only [fewB, Bool.and_eq_true, List.all_cons, List.all_nil, Bool.and_true] at h'
    have h1 := few_tm d a hok h'.2.2.2.2.2.2.2.2
    have := Nat.one_le_two_pow (n := d)
    have e : 2 ^ (d + 2) = 4 * 2 ^ d := by rw [Nat.pow_add]; omega
    show a.sz + 2 + 1 ≤ 2 ^ (d + 2)
    omega
theorem few_size {x : Ex} (h : rightE x = true) (hf : fewB 12 x = true) : exZ x ≤ 5000 := by
  obtain ⟨h1, h2⟩ := right_ok h
  rw [← h2] at hf
  have := few_tm 12 _ h1 hf
  unfold exZ
  omega
theorem all_take_succ {α : Type} (p : α → Bool) {xs : List α} {k : Nat} {x : α} (hx : xs[k]? = some x) : (xs.take (k + 1)).all p = ((xs.take k).all p && p x) := by
  obtain ⟨h1, h2⟩ := List.getElem?_eq_some_iff.1 hx
  rw [List.take_succ_eq_append_getElem h1, h2, List.all_append]
  simp
theorem all_take_false {α : Type} (p : α → Bool) {xs : List α} {k n : Nat} {x : α} (hx : xs[k]? = some x) (hk : k < n) (hp : p x = false) : (xs.take n).all p = false := by
  rw [Bool.eq_false_iff]
  intro h
  have hm : x ∈ xs.take n := by
    obtain ⟨h1, h2⟩ := List.getElem?_eq_some_iff.1 hx
    rw [← h2]
    exact List.mem_of_getElem? (i := k) (by rw [List.getElem?_take, if_pos hk]; exact List.getElem?_eq_getElem h1)
  have := List.all_eq_true.1 h x hm
  rw [hp] at this
  cases this
theorem few_any (S : Nat → Prop) : ∀ (d : Nat) (x : Ex) (v : Value) (w : World), d ≤ 100 → RgE x → ExV S w x v → Calls Tryz.prog 9 #[v, .int .i64 d] w fun e w' => e = .returned (.bool (fewB d x)) ∧ Below w.heap.size w w' := by
  intro d
  induction d with
  | zero =>
    intro x v w hd hR hx
    obtain ⟨k, op, tb, nm, vk, vn, vs, ys, aa, nn, cc, rfl, rfl, ha⟩ := hx
    obtain ⟨W, hW, hbW, hzW, hcW⟩ := box8 w (.cells #[.int .i64 k, .int .i64 op, .string (str8 tb), .string (str8 nm), .int .i64 vk, .int .i64 vn, .string (str8 vs), .slice aa nn cc] 26)
    have k0 := cells8 hcW
    have HB := hid hbW
    clear hbW hcW ha hR
    show Calls Tryz.prog 9 _ w fun e w' => e = .returned (.bool false) ∧ _
    go_enter Tryz.func9, Tryz.ntmps9
    go_wp2
    go_ret
    exact ⟨rfl, HB.out⟩
  | succ d ih =>
    intro x v w hd hR hx
    obtain ⟨k, op, tb, nm, vk, vn, vs, ys, aa, nn, cc, rfl, rfl, ha⟩ := hx
    obtain ⟨W, hW, hbW, hzW, hcW⟩ := box8 w (.cells #[.int .i64 k, .int .i64 op, .string (str8 tb), .string (str8 nm), .int .i64 vk, .int .i64 vn, .string (str8 vs), .slice aa nn cc] 26)
    have hsl := args_sl ha
    have HV := hid (hsl.to (T := S) (by decide) (R := fun _ => False) (Spares.of_new hbW) (fun b hb _ => ⟨id, hb⟩) (fun _ _ e => e.to (R := fun _ => False) (Spares.of_new hbW) (fun b hb _ => ⟨id, hb⟩)))
    obtain ⟨a', c', css, hv, h1, h2, _⟩ := hsl
    simp only [Value.slice.injEq] at hv
    obtain ⟨rfl, rfl, rfl⟩ := hv
    unfold maxLen at h2
    have hRy : ∀ y ∈ ys, RgE y := by cases hR with | mk _ _ _ _ _ _ _ _ _ _ _ hx => exact hx
    have k0 := cells8 hcW
    have HC0 := hid hcW
    have HB := hid hbW
    have zt : (str8 tb).size = tb.length := rfl
    have zn : (str8 nm).size = nm.length := rfl
    have zv : (str8 vs).size = vs.length := rfl
    have hd1 : ((((d + 1 : Nat) : Int)) == 0) = false := by
      rw [beq_eq_false_iff_ne]
      omega
    have hdm : IntKind.i64.wrap (((d + 1 : Nat) : Int) - 1) = (d : Int) := by
      have e : ((d + 1 : Nat) : Int) - 1 = (d : Int) := by omega
      rw [e]
      exact i64F _ (by omega) (by simp only [Int.reducePow]; omega)
    have HI := hid (fun y (hy : y ∈ ys) u V (hV : ExV S V y u) => ih y u V (by omega) (hRy y hy) hV)
    clear ih hR hRy ha hbW hcW
    generalize (((d + 1 : Nat) : Int)) = D at hd1 hdm ⊢
    show Calls Tryz.prog 9 _ w fun e w' => e = .returned (.bool (decide (ys.length ≤ 3) && (decide (tb.length ≤ 4096) && (decide (nm.length ≤ 4096) && (decide (vs.length ≤ 4096) && ys.all (fewB d)))))) ∧ _
    by_cases c1 : ys.length ≤ 3
    · rw [decide_eq_true c1, Bool.true_and]
      have c1' : ¬ ((3 : Int) < (ys.length : Int)) := by omega
      by_cases c2 : tb.length ≤ 4096
      · rw [decide_eq_true c2, Bool.true_and]
        have c2' : ¬ ((4096 : Int) < ((str8 tb).size : Int)) := by rw [zt]; omega
        by_cases c3 : nm.length ≤ 4096
        · rw [decide_eq_true c3, Bool.true_and]
          have c3' : ¬ ((4096 : Int) < ((str8 nm).size : Int)) := by rw [zn]; omega
          by_cases c4 : vs.length ≤ 4096
          · rw [decide_eq_true c4, Bool.true_and]
            have c4' : ¬ ((4096 : Int) < ((str8 vs).size : Int)) := by rw [zv]; omega
            clear zt zn zv c2 c3 c4
            obtain ⟨X, hX⟩ : ∃ X, ys.all (fewB d) = X := ⟨_, rfl⟩
            rw [hX]
            have HX := hid hX
            clear hX
            go_enter Tryz.func9, Tryz.ntmps9
            go_wp2_with fail
            go_loopw [5, 6] (fun i _ wr => ∃ (j : Nat), j ≤ ys.length ∧ i = .int .i64 j ∧ Below W.heap.size W wr ∧ Hid ((ys.take j).all (fewB d) = true)) (fun i _ _ => ys.length - (intOf i).toNat)
            case atStart => exact ⟨0, Nat.zero_le _, rfl, Below.refl _ _, hid rfl⟩
            case round =>
              obtain ⟨j, hj, rfl, hbel, HK⟩ := hrel
              have kW := cells8 ((hbel.block w.heap.size hzW).trans HC0.out)
              by_cases hlt : j < ys.length
              · obtain ⟨y, hy⟩ : ∃ y, ys[j]? = some y := ⟨_, List.getElem?_eq_getElem hlt⟩
                have hlt' : ((j : Int) < (ys.length : Int)) := by omega
                obtain ⟨_, _, _, b, off, cs, rfl, _, hel, hcell⟩ := sl_get (HV.out.to (T := S) (by decide) (R := fun _ => False) (Spares.of_new hbel) (fun b hb _ => ⟨id, hb⟩) (fun _ _ e => e.to (R := fun _ => False) (Spares.of_new hbel) (fun b hb _ => ⟨id, hb⟩))) hy
                have HC := hid (HI.out y (List.mem_of_getElem? hy) _ wr hel.v)
                have HT := hid (all_take_succ (fewB d) hy)
                have HFL := hid (fun hp => all_take_false (fewB d) (n := ys.length) hy hlt hp)
                obtain ⟨k1, op1, tb1, nm1, vk1, vn1, vs1, ys1, aa1, nn1, cc1, _, rfl, _⟩ := hel
                have q0 := hcell 0 _ rfl
                have q1 := hcell 1 _ rfl
                have q2 := hcell 2 _ rfl
                have q3 := hcell 3 _ rfl
                have q4 := hcell 4 _ rfl
                have q5 := hcell 5 _ rfl
                have q6 := hcell 6 _ rfl
                have q7 := hcell 7 _ rfl
                simp only [Nat.add_zero] at q0
                have HBR := hid hbel
                clear hbel hcell hy
                cases hp : fewB d y with
                | true =>
                  rw [hp] at HC HT
                  have HK2 : Hid ((ys.take (j + 1)).all (fewB d) = true) := hid (by rw [HT.out, HK.out]; rfl)
                  clear HK hp HT HFL
                  go_wp2_with fail
                  refine HC.out.mono ?_
                  rintro e w2 ⟨rfl, hb2⟩
                  have HB2 : Hid (Below W.heap.size W w2) := hid (HBR.out.trans (hb2.mono HBR.out.size))
                  clear hb2 HC
                  go_wp2
                  go_roundw
                  case rel => exact ⟨j + 1, by omega, by go_num, HB2.out, HK2⟩
                  case measure => simp [intOf]; omega
                | false =>
                  rw [hp] at HC
                  have HXF : Hid (X = false) := hid (by
                    rw [← HX.out]
                    have := HFL.out hp
                    rw [List.take_of_length_le (Nat.le_refl _)] at this
                    exact this)
                  clear HK hp HT HFL
                  go_wp2_with fail
                  refine HC.out.mono ?_
                  rintro e w2 ⟨rfl, hb2⟩
                  have HB2 : Hid (Below w.heap.size w w2) := hid (HB.out.trans ((HBR.out.trans (hb2.mono HBR.out.size)).mono HB.out.size))
                  clear hb2 HC
                  go_wp2
                  go_ret
                  exact ⟨by rw [HXF.out]; rfl, HB2.out⟩
              · have hlt' : ¬ ((j : Int) < (ys.length : Int)) := by omega
                have HXT : Hid (X = true) := hid (by rw [← HX.out]; have := HK.out; rw [List.take_of_length_le (by omega)] at this; exact this)
                have HB2 : Hid (Below w.heap.size w wr) := hid (HB.out.trans (hbel.mono HB.out.size))
                clear hbel HK
                go_wp2
                go_ret
                exact ⟨by rw [HXT.out]; rfl, HB2.out⟩
          · rw [decide_eq_false c4, Bool.false_and]
            have c4' : ((4096 : Int) < ((str8 vs).size : Int)) := by rw [zv]; omega
            clear zt zn zv c2 c3 c4 HI HV HC0
            go_enter Tryz.func9, Tryz.ntmps9
            go_wp2
            go_ret
            exact ⟨rfl, HB.out⟩
        · rw [decide_eq_false c3, Bool.false_and]
          have c3' : ((4096 : Int) < ((str8 nm).size : Int)) := by rw [zn]; omega
          clear zt zn zv c2 c3 HI HV HC0
          go_enter Tryz.func9, Tryz.ntmps9
          go_wp2
          go_ret
          exact ⟨rfl, HB.out⟩
      · rw [decide_eq_false c2, Bool.false_and]
        have c2' : ((4096 : Int) < ((str8 tb).size : Int)) := by rw [zt]; omega
        clear zt zn zv c2 HI HV HC0
        go_enter Tryz.func9, Tryz.ntmps9
        go_wp2
        go_ret
        exact ⟨rfl, HB.out⟩
    · rw [decide_eq_false c1, Bool.false_and]
      have c1' : ((3 : Int) < (ys.length : Int)) := by omega
      clear zt zn zv c1 HI HV HC0
      go_enter Tryz.func9, Tryz.ntmps9
      go_wp2
      go_ret
      exact ⟨rfl, HB.out⟩
end Go.Proofs.YtnidnipiihhnaaaGreatDoor
