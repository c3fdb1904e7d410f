/- Packed for the hand-in: WRightS -/
import Derived.Test.YtnidnipiihhnaaaGreatDoorY20
import Derived.Test.YtnidnipiihhnaaaGreatDoorY12
namespace Go.Proofs.YtnidnipiihhnaaaGreatDoor
open Go.RowKit Go.Shelf
set_option linter.unusedSimpArgs false
set_option linter.unusedVariables false
set_option maxRecDepth 20000
set_option maxHeartbeats 8000000
theorem cells4W {w : World} {g : Nat} {a b c d : Value} {t : TypeId} (h : w.heap[g]? = some (.cells #[a, b, c, d] t)) : w.cell? ⟨g, 0, none⟩ = some a ∧ w.cell? ⟨g, 1, none⟩ = some b ∧ w.cell? ⟨g, 2, none⟩ = some c ∧ w.cell? ⟨g, 3, none⟩ = some d :=
  ⟨by rw [cell_row _ _ _ _ _ _ h]; rfl, by rw [cell_row _ _ _ _ _ _ h]; rfl, by rw [cell_row _ _ _ _ _ _ h]; rfl, by rw [cell_row _ _ _ _ _ _ h]; rfl⟩
theorem cells2W {w : World} {g : Nat} {a b : Value} {t : TypeId} (h : w.heap[g]? = some (.cells #[a, b] t)) : w.cell? ⟨g, 0, none⟩ = some a ∧ w.cell? ⟨g, 1, none⟩ = some b :=
  ⟨by rw [cell_row _ _ _ _ _ _ h]; rfl, by rw [cell_row _ _ _ _ _ _ h]; rfl⟩
theorem cells9W {w : World} {g : Nat} {a b c d e f i j k : Value} {t : TypeId} (h : w.heap[g]? = some (.cells #[a, b, c, d, e, f, i, j, k] t)) : w.cell? ⟨g, 0, none⟩ = some a ∧ w.cell? ⟨g, 1, none⟩ = some b ∧ w.cell? ⟨g, 2, none⟩ = some c ∧ w.cell? ⟨g, 3, none⟩ = some d ∧ w.cell? ⟨g, 4, none⟩ = some e ∧ w.cell? ⟨g, 5, none⟩ = some f ∧ w.cell? ⟨g, 6, none⟩ = some i ∧ w.cell? ⟨g, 7, none⟩ = some j ∧ w.cell? ⟨g, 8, none⟩ = some k :=
  ⟨by rw [cell_row _ _ _ _ _ _ h]; rfl, by rw [cell_row _ _ _ _ _ _ h]; rfl, by rw [cell_row _ _ _ _ _ _ h]; rfl, by rw [cell_row _ _ _ _ _ _ h]; rfl, by rw [cell_row _ _ _ _ _ _ h]; rfl, by rw [cell_row _ _ _ _ _ _ h]; rfl, by rw [cell_row _ _ _ _ _ _ h]; rfl, by rw [cell_row _ _ _ _ _ _ h]; rfl, by rw [cell_row _ _ _ _ _ _ h]; rfl⟩
theorem rightE_any (S : Nat → Prop) (x : Ex) (v : Value) (w : World) (hR : RgE x) (hx : ExV S w x v) : Calls Tryz.prog 20 #[v] w fun e w' => e = .returned (.bool (rightE x)) ∧ Below w.heap.size w w' :=
  rightExpr_any S _ x v w (Nat.lt_succ_self _) hR hx
theorem rightEs_any (S : Nat → Prop) (xs : List Ex) (v : Value) (lo hi : Nat) (w : World) (h1 : lo ≤ 100) (h2 : hi ≤ 100) (hR : ∀ x ∈ xs, RgE x) (hx : ArgsAt S w xs v) : Calls Tryz.prog 46 #[v, .int .i64 lo, .int .i64 hi, .func (.func 20) #[] #[]] w fun e w' => e = .returned (.bool (areB xs lo hi rightE)) ∧ Below w.heap.size w w' :=
  areEx_any S 20 (enters_of Tryz.func20 (by kernel_rfl) rfl) rightE xs v lo hi w h1 h2 (args_sl hx) (hid (fun y hy U hU cs hcs => rightE_any S y _ U (hR y hy) hcs.v))
theorem rightColumn_any (c : Co) (w : World) (h1 : c.nm.length ≤ 9223372036854775807) :
    Calls Tryz.prog 61 #[.agg #[.string (str8 c.nm), .int .i64 c.k, .bool c.nn, .bool c.uq]] w fun e w' => e = .returned (.bool (colB c)) ∧ Below w.heap.size w w' := by
  obtain ⟨nm, k, nn, uq⟩ := c
  dsimp only at h1 ⊢
  have HN := hid (fun V => lname_any nm V h1)
  have hd : colB ⟨nm, k, nn, uq⟩ = (nameOk nm && (decide (k = 1) || decide (k = 2))) := by unfold colB; simp
  rw [hd]
  clear hd h1
  obtain ⟨W, hW, hbW, hzW, hcW⟩ := box8 w (.cells #[.string (str8 nm), .int .i64 k, .bool nn, .bool uq] 100)
  have k0 := cells4W hcW
  have HB := hid hbW
  have HC := hid hcW
  have HQ0 := hid (Below.refl W.heap.size W)
  clear hbW hcW
  cases hv0 : nameOk nm with
  | true =>
    rw [Bool.true_and]
    rw [hv0] at HN
    clear hv0
    cases hv1 : decide (k = 1) with
    | true =>
      rw [Bool.true_or]
      have g1 : (k == 1) = true := by rw [of_decide_eq_true hv1]; rfl
      clear hv1
      go_enter Tryz.func61, Tryz.ntmps61
      go_wp2_with fail
      refine (HN.out _).mono ?_
      rintro e v1 ⟨rfl, hb1⟩
      have HQ1 : Hid (Below W.heap.size W v1) := hid (HQ0.out.trans (hb1.mono HQ0.out.size))
      have kk1 := cells4W ((HQ1.out.block w.heap.size hzW).trans HC.out)
      clear hb1
      go_wp2
      go_ret
      exact ⟨rfl, HB.out.trans (HQ1.out.mono HB.out.size)⟩
    | false =>
      rw [Bool.false_or]
      have g1 : (k == 1) = false := by rw [beq_eq_false_iff_ne]; exact of_decide_eq_false hv1
      clear hv1
      cases hv2 : decide (k = 2) with
      | true =>
        have g2 : (k == 2) = true := by rw [of_decide_eq_true hv2]; rfl
        clear hv2
        go_enter Tryz.func61, Tryz.ntmps61
        go_wp2_with fail
        refine (HN.out _).mono ?_
        rintro e v1 ⟨rfl, hb1⟩
        have HQ1 : Hid (Below W.heap.size W v1) := hid (HQ0.out.trans (hb1.mono HQ0.out.size))
        have kk1 := cells4W ((HQ1.out.block w.heap.size hzW).trans HC.out)
        clear hb1
        go_wp2
        go_ret
        exact ⟨rfl, HB.out.trans (HQ1.out.mono HB.out.size)⟩
      | false =>
        have g2 : (k == 2) = false := by rw [beq_eq_false_iff_ne]; exact of_decide_eq_false hv2
        clear hv2
        go_enter Tryz.func61, Tryz.ntmps61
        go_wp2_with fail
        refine (HN.out _).mono ?_
        rintro e v1 ⟨rfl, hb1⟩
        have HQ1 : Hid (Below W.heap.size W v1) := hid (HQ0.out.trans (hb1.mono HQ0.out.size))
        have kk1 := cells4W ((HQ1.out.block w.heap.size hzW).trans HC.out)
        clear hb1
        go_wp2
        go_ret
        exact ⟨rfl, HB.out.trans (HQ1.out.mono HB.out.size)⟩
  | false =>
    rw [Bool.false_and]
    rw [hv0] at HN
    clear hv0
    go_enter Tryz.func61, Tryz.ntmps61
    go_wp2_with fail
    refine (HN.out _).mono ?_
    rintro e v1 ⟨rfl, hb1⟩
    have HQ1 : Hid (Below W.heap.size W v1) := hid (HQ0.out.trans (hb1.mono HQ0.out.size))
    have kk1 := cells4W ((HQ1.out.block w.heap.size hzW).trans HC.out)
    clear hb1
    go_wp2
    go_ret
    exact ⟨rfl, HB.out.trans (HQ1.out.mono HB.out.size)⟩
def RgV (v : Vl) : Prop := -9223372036854775808 ≤ v.n ∧ v.n ≤ 9223372036854775807 ∧ v.s.length ≤ 9223372036854775807
theorem rightRow_any (S : Nat → Prop) (r : List Vl) (aa : Option Addr) (nn cc : Nat) (w : World) (hR : ∀ v ∈ r, RgV v) (hv : SlAt 3 VlE S w r (.slice aa nn cc)) :
    Calls Tryz.prog 63 #[.slice aa nn cc] w fun e w' => e = .returned (.bool (rowB r)) ∧ Below w.heap.size w w' := by
  have HA : Hid (Calls Tryz.prog 128 #[.slice aa nn cc, .int .i64 1, .int .i64 8, .func (.func 42) #[] #[]] w fun e w' => e = .returned (.bool (rowB r)) ∧ Below w.heap.size w w') := hid (areVl_any S 42 (enters_of Tryz.func42 (by kernel_rfl) rfl) valOk r _ 1 8 w (by omega) (by omega) hv (hid (fun y hy U hU cs hcs => by
    obtain ⟨h1, h2, h3⟩ := hR y hy
    obtain rfl := hcs
    exact rightValue_any y.k y.n y.s U h1 h2 h3)))
  clear hR hv
  go_enter Tryz.func63, Tryz.ntmps63
  go_wp2_with fail
  refine HA.out.mono ?_
  rintro e w1 ⟨rfl, hb1⟩
  have HB := hid hb1
  clear hb1 HA
  go_wp2
  go_ret
  exact ⟨rfl, HB.out⟩
theorem rightSet_any (S : Nat → Prop) (x : Se) (cs : List Value) (w : World) (h1 : x.nm.length ≤ 9223372036854775807) (hR : RgE x.e) (hx : SeE S w x cs) :
    Calls Tryz.prog 65 #[.agg cs.toArray] w fun e w' => e = .returned (.bool (setB x)) ∧ Below w.heap.size w w' := by
  obtain ⟨k, op, tb, nm, vk, vn, vs, ys, aa, nn, cc, he, rfl, ha⟩ := hx
  have HN := hid (fun V => lname_any x.nm V h1)
  have HE := hid (fun V (hV : Below w.heap.size w V) => rightE_any S x.e _ V hR (ExV.mk' he (ha.new hV)))
  show Calls Tryz.prog 65 _ w fun e w' => e = .returned (.bool (nameOk x.nm && rightE x.e)) ∧ _
  clear h1 hR ha he
  obtain ⟨W, hW, hbW, hzW, hcW⟩ := box8 w (.cells #[.string (str8 x.nm), .int .i64 k, .int .i64 op, .string (str8 tb), .string (str8 nm), .int .i64 vk, .int .i64 vn, .string (str8 vs), .slice aa nn cc] 68)
  have k0 := cells9W hcW
  have HB := hid hbW
  have HC := hid hcW
  have HQ0 := hid (Below.refl W.heap.size W)
  clear hbW hcW
  cases hv0 : nameOk x.nm with
  | true =>
    rw [Bool.true_and]
    rw [hv0] at HN
    clear hv0
    cases hv1 : rightE x.e with
    | true =>
      rw [hv1] at HE
      clear hv1
      go_enter Tryz.func65, Tryz.ntmps65
      go_wp2_with fail
      refine (HN.out _).mono ?_
      rintro e v1 ⟨rfl, hb1⟩
      have HQ1 : Hid (Below W.heap.size W v1) := hid (HQ0.out.trans (hb1.mono HQ0.out.size))
      have kk1 := cells9W ((HQ1.out.block w.heap.size hzW).trans HC.out)
      clear hb1
      go_wp2_with fail
      refine (HE.out _ (HB.out.trans (HQ1.out.mono HB.out.size))).mono ?_
      rintro e v2 ⟨rfl, hb2⟩
      have HQ2 : Hid (Below W.heap.size W v2) := hid (HQ1.out.trans (hb2.mono HQ1.out.size))
      have kk2 := cells9W ((HQ2.out.block w.heap.size hzW).trans HC.out)
      clear hb2
      go_wp2
      go_ret
      exact ⟨rfl, HB.out.trans (HQ2.out.mono HB.out.size)⟩
    | false =>
      rw [hv1] at HE
      clear hv1
      go_enter Tryz.func65, Tryz.ntmps65
      go_wp2_with fail
      refine (HN.out _).mono ?_
      rintro e v1 ⟨rfl, hb1⟩
      have HQ1 : Hid (Below W.heap.size W v1) := hid (HQ0.out.trans (hb1.mono HQ0.out.size))
      have kk1 := cells9W ((HQ1.out.block w.heap.size hzW).trans HC.out)
      clear hb1
      go_wp2_with fail
      refine (HE.out _ (HB.out.trans (HQ1.out.mono HB.out.size))).mono ?_
      rintro e v2 ⟨rfl, hb2⟩
      have HQ2 : Hid (Below W.heap.size W v2) := hid (HQ1.out.trans (hb2.mono HQ1.out.size))
      have kk2 := cells9W ((HQ2.out.block w.heap.size hzW).trans HC.out)
      clear hb2
      go_wp2
      go_ret
      exact ⟨rfl, HB.out.trans (HQ2.out.mono HB.out.size)⟩
  | false =>
    rw [Bool.false_and]
    rw [hv0] at HN
    clear hv0
    go_enter Tryz.func65, Tryz.ntmps65
    go_wp2_with fail
    refine (HN.out _).mono ?_
    rintro e v1 ⟨rfl, hb1⟩
    have HQ1 : Hid (Below W.heap.size W v1) := hid (HQ0.out.trans (hb1.mono HQ0.out.size))
    have kk1 := cells9W ((HQ1.out.block w.heap.size hzW).trans HC.out)
    clear hb1
    go_wp2
    go_ret
    exact ⟨rfl, HB.out.trans (HQ1.out.mono HB.out.size)⟩
theorem rightColumnExpr_any (S : Nat → Prop) (x : Ex) (v : Value) (w : World) (hR : RgE x) (hx : ExV S w x v) :
    Calls Tryz.prog 131 #[v] w fun e w' => e = .returned (.bool (colEB x)) ∧ Below w.heap.size w w' := by
  have HE := hid (fun V (hV : Below w.heap.size w V) => rightE_any S x v V hR (hx.new hV))
  obtain ⟨k, op, tb, nm, vk, vn, vs, ys, aa, nn, cc, rfl, rfl, ha⟩ := hx
  show Calls Tryz.prog 131 _ w fun e w' => e = .returned (.bool (decide (k = 2) && rightE (.mk k op tb nm ⟨vk, vn, vs⟩ ys))) ∧ _
  clear hR ha
  generalize rightE (.mk k op tb nm ⟨vk, vn, vs⟩ ys) = R at HE ⊢
  obtain ⟨W, hW, hbW, hzW, hcW⟩ := box8 w (.cells #[.int .i64 k, .int .i64 op, .string (str8 tb), .string (str8 nm), .int .i64 vk, .int .i64 vn, .string (str8 vs), .slice aa nn cc] 26)
  have k0 := cells8 hcW
  have HB := hid hbW
  have HC := hid hcW
  have HQ0 := hid (Below.refl W.heap.size W)
  clear hbW hcW
  cases hv0 : decide (k = 2) with
  | true =>
    rw [Bool.true_and]
    have g2 : (k == 2) = true := by rw [of_decide_eq_true hv0]; rfl
    clear hv0
    cases hv1 : R with
    | true =>
      rw [hv1] at HE
      clear hv1
      go_enter Tryz.func131, Tryz.ntmps131
      go_wp2_with fail
      refine (HE.out _ (HB.out.trans (HQ0.out.mono HB.out.size))).mono ?_
      rintro e v1 ⟨rfl, hb1⟩
      have HQ1 : Hid (Below W.heap.size W v1) := hid (HQ0.out.trans (hb1.mono HQ0.out.size))
      have kk1 := cells8 ((HQ1.out.block w.heap.size hzW).trans HC.out)
      clear hb1
      go_wp2
      go_ret
      exact ⟨rfl, HB.out.trans (HQ1.out.mono HB.out.size)⟩
    | false =>
      rw [hv1] at HE
      clear hv1
      go_enter Tryz.func131, Tryz.ntmps131
      go_wp2_with fail
      refine (HE.out _ (HB.out.trans (HQ0.out.mono HB.out.size))).mono ?_
      rintro e v1 ⟨rfl, hb1⟩
      have HQ1 : Hid (Below W.heap.size W v1) := hid (HQ0.out.trans (hb1.mono HQ0.out.size))
      have kk1 := cells8 ((HQ1.out.block w.heap.size hzW).trans HC.out)
      clear hb1
      go_wp2
      go_ret
      exact ⟨rfl, HB.out.trans (HQ1.out.mono HB.out.size)⟩
  | false =>
    rw [Bool.false_and]
    have g2 : (k == 2) = false := by rw [beq_eq_false_iff_ne]; exact of_decide_eq_false hv0
    clear hv0
    go_enter Tryz.func131, Tryz.ntmps131
    go_wp2
    go_ret
    exact ⟨rfl, HB.out.trans (HQ0.out.mono HB.out.size)⟩
theorem rightItem_any (S : Nat → Prop) (x : It) (cs : List Value) (w : World) (hR : ∀ y ∈ x.xs, RgE y) (hx : ItE S w x cs) :
    Calls Tryz.prog 130 #[.agg cs.toArray] w fun e w' => e = .returned (.bool (itB x)) ∧ Below w.heap.size w w' := by
  obtain ⟨aa, nn, cc, rfl, ha⟩ := hx
  obtain ⟨k, xs⟩ := x
  dsimp only at ha hR ⊢
  obtain ⟨a', c', hsl, _⟩ := ha.form
  simp only [Value.slice.injEq] at hsl
  obtain ⟨rfl, rfl, rfl⟩ := hsl
  have HE : Hid (∀ V, Below w.heap.size w V → Calls Tryz.prog 46 #[.slice aa xs.length cc, .int .i64 1, .int .i64 1, .func (.func 20) #[] #[]] V fun e w' => e = .returned (.bool (areB xs 1 1 rightE)) ∧ Below V.heap.size V w') := hid (fun V (hV : Below w.heap.size w V) => rightEs_any S xs _ 1 1 V (by omega) (by omega) hR (ha.new hV))
  unfold itB
  dsimp only
  clear hR ha
  obtain ⟨W, hW, hbW, hzW, hcW⟩ := box8 w (.cells #[.int .i64 k, .slice aa xs.length cc] 71)
  have k0 := cells2W hcW
  have HB := hid hbW
  have HC := hid hcW
  have HQ0 := hid (Below.refl W.heap.size W)
  clear hbW hcW
  by_cases h13 : k = 1 ∨ k = 3
  · rw [if_pos h13]
    have hz : decide (xs.length = 0) = ((xs.length : Int) == 0) := by rw [Bool.eq_iff_iff, decide_eq_true_eq, beq_iff_eq]; omega
    rw [hz]
    clear hz HE
    rcases h13 with rfl | rfl
    · go_enter Tryz.func130, Tryz.ntmps130
      go_wp2
      go_ret
      exact ⟨rfl, HB.out⟩
    · go_enter Tryz.func130, Tryz.ntmps130
      go_wp2
      go_ret
      exact ⟨rfl, HB.out⟩
  · rw [if_neg h13]
    by_cases h2 : k = 2 ∨ k = 4 ∨ k = 5 ∨ k = 6 ∨ k = 7
    · rw [if_pos h2]
      generalize areB xs 1 1 rightE = R at HE ⊢
      clear h13
      rcases h2 with rfl | rfl | rfl | rfl | rfl
      · go_enter Tryz.func130, Tryz.ntmps130
        go_wp2_with fail
        refine (HE.out _ (HB.out.trans (HQ0.out.mono HB.out.size))).mono ?_
        rintro e v1 ⟨rfl, hb1⟩
        have HQ1 : Hid (Below W.heap.size W v1) := hid (HQ0.out.trans (hb1.mono HQ0.out.size))
        have kk1 := cells2W ((HQ1.out.block w.heap.size hzW).trans HC.out)
        clear hb1
        go_wp2
        go_ret
        exact ⟨rfl, HB.out.trans (HQ1.out.mono HB.out.size)⟩
      · go_enter Tryz.func130, Tryz.ntmps130
        go_wp2_with fail
        refine (HE.out _ (HB.out.trans (HQ0.out.mono HB.out.size))).mono ?_
        rintro e v1 ⟨rfl, hb1⟩
        have HQ1 : Hid (Below W.heap.size W v1) := hid (HQ0.out.trans (hb1.mono HQ0.out.size))
        have kk1 := cells2W ((HQ1.out.block w.heap.size hzW).trans HC.out)
        clear hb1
        go_wp2
        go_ret
        exact ⟨rfl, HB.out.trans (HQ1.out.mono HB.out.size)⟩
      · go_enter Tryz.func130, Tryz.ntmps130
        go_wp2_with fail
        refine (HE.out _ (HB.out.trans (HQ0.out.mono HB.out.size))).mono ?_
        rintro e v1 ⟨rfl, hb1⟩
        have HQ1 : Hid (Below W.heap.size W v1) := hid (HQ0.out.trans (hb1.mono HQ0.out.size))
        have kk1 := cells2W ((HQ1.out.block w.heap.size hzW).trans HC.out)
        clear hb1
        go_wp2
        go_ret
        exact ⟨rfl, HB.out.trans (HQ1.out.mono HB.out.size)⟩
      · go_enter Tryz.func130, Tryz.ntmps130
        go_wp2_with fail
        refine (HE.out _ (HB.out.trans (HQ0.out.mono HB.out.size))).mono ?_
        rintro e v1 ⟨rfl, hb1⟩
        have HQ1 : Hid (Below W.heap.size W v1) := hid (HQ0.out.trans (hb1.mono HQ0.out.size))
        have kk1 := cells2W ((HQ1.out.block w.heap.size hzW).trans HC.out)
        clear hb1
        go_wp2
        go_ret
        exact ⟨rfl, HB.out.trans (HQ1.out.mono HB.out.size)⟩
      · go_enter Tryz.func130, Tryz.ntmps130
        go_wp2_with fail
        refine (HE.out _ (HB.out.trans (HQ0.out.mono HB.out.size))).mono ?_
        rintro e v1 ⟨rfl, hb1⟩
        have HQ1 : Hid (Below W.heap.size W v1) := hid (HQ0.out.trans (hb1.mono HQ0.out.size))
        have kk1 := cells2W ((HQ1.out.block w.heap.size hzW).trans HC.out)
        clear hb1
        go_wp2
        go_ret
        exact ⟨rfl, HB.out.trans (HQ1.out.mono HB.out.size)⟩
    · rw [if_neg h2]
      have g1 : (k == 1) = false := by rw [beq_eq_false_iff_ne]; intro e; omega
      have g2 : (k == 2) = false := by rw [beq_eq_false_iff_ne]; intro e; omega
      have g3 : (k == 3) = false := by rw [beq_eq_false_iff_ne]; intro e; omega
      have g4 : (k == 4) = false := by rw [beq_eq_false_iff_ne]; intro e; omega
      have g5 : (k == 5) = false := by rw [beq_eq_false_iff_ne]; intro e; omega
      have g6 : (k == 6) = false := by rw [beq_eq_false_iff_ne]; intro e; omega
      have g7 : (k == 7) = false := by rw [beq_eq_false_iff_ne]; intro e; omega
      clear h13 h2 HE
      go_enter Tryz.func130, Tryz.ntmps130
      go_wp2
      go_ret
      exact ⟨rfl, HB.out⟩
end Go.Proofs.YtnidnipiihhnaaaGreatDoor
