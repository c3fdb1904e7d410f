/- Packed for the hand-in: WRight -/
import Derived.Test.YtnidnipiihhnaaaGreatDoorY18
namespace Go.Proofs.YtnidnipiihhnaaaGreatDoor
open Go.RowKit Go.Shelf
set_option linter.unusedSimpArgs false
set_option linter.unusedVariables false
set_option maxRecDepth 20000
set_option maxHeartbeats 8000000
inductive RgE : Ex → Prop
  | mk (k op : Int) (tb nm : List UInt8) (v : Vl) (xs : List Ex) (h1 : -9223372036854775808 ≤ v.n) (h2 : v.n ≤ 9223372036854775807) (h3 : v.s.length ≤ 9223372036854775807) (h4 : tb.length ≤ 9223372036854775807) (h5 : nm.length ≤ 9223372036854775807) (hx : ∀ x ∈ xs, RgE x) : RgE (.mk k op tb nm v xs)
theorem str8_empty (s : List UInt8) : (str8 s).toList.isEmpty = decide (s = []) := by
  rw [str8_toList]
  cases s <;> simp
theorem noe_any (s : List UInt8) (w : World) (hs : s.length ≤ 9223372036854775807) :
    Calls Tryz.prog 44 #[.string (str8 s)] w fun e w' => e = .returned (.bool (noeB s)) ∧ Below w.heap.size w w' := by
  have HN := hid (lname_any s w hs)
  have he := str8_empty s
  by_cases h0 : s = []
  · have hd : noeB s = true := by unfold noeB; rw [decide_eq_true h0]; rfl
    rw [hd]
    rw [decide_eq_true h0] at he
    clear hd h0
    generalize str8 s = S at HN he ⊢
    go_enter Tryz.func44, Tryz.ntmps44
    go_wp2
    go_ret
    exact ⟨rfl, Below.refl _ _⟩
  · have hd : noeB s = nameOk s := by unfold noeB; rw [decide_eq_false h0]; rfl
    rw [hd]
    rw [decide_eq_false h0] at he
    clear hd h0
    generalize str8 s = S at HN he ⊢
    go_enter Tryz.func44, Tryz.ntmps44
    go_wp2_with fail
    refine HN.out.mono ?_
    rintro e w1 ⟨rfl, hb1⟩
    have HB := hid hb1
    clear hb1 HN
    go_wp2
    go_ret
    exact ⟨rfl, HB.out⟩
theorem isOp_any (o : Int) (w : World) : Calls Tryz.prog 45 #[.int .i64 o] w fun e w' => e = .returned (.bool (decide (1 ≤ o ∧ o ≤ 13))) ∧ w' = w := by
  by_cases h1 : 1 ≤ o
  · by_cases h2 : o ≤ 13
    · rw [decide_eq_true ⟨h1, h2⟩]
      have h2' : o < 14 := by omega
      go_enter Tryz.func45, Tryz.ntmps45
      go_wp2
      go_ret
      exact ⟨rfl, rfl⟩
    · rw [decide_eq_false (fun h => h2 h.2)]
      have h2' : ¬ o < 14 := by omega
      clear h2
      go_enter Tryz.func45, Tryz.ntmps45
      go_wp2
      go_ret
      exact ⟨rfl, rfl⟩
  · rw [decide_eq_false (fun h => h1 h.1)]
    go_enter Tryz.func45, Tryz.ntmps45
    go_wp2
    go_ret
    exact ⟨rfl, rfl⟩
theorem rightValue_any (k n : Int) (s : List UInt8) (w : World) (h1 : -9223372036854775808 ≤ n) (h2 : n ≤ 9223372036854775807) (hs : s.length ≤ 9223372036854775807) :
    Calls Tryz.prog 42 #[.agg #[.int .i64 k, .int .i64 n, .string (str8 s)]] w fun e w' => e = .returned (.bool (valOk ⟨k, n, s⟩)) ∧ Below w.heap.size w w' := by
  obtain ⟨W, hW, hbW, hzW, hcW⟩ := box8 w (.cells #[.int .i64 k, .int .i64 n, .string (str8 s)] 23)
  have k0 := cells3W hcW
  have HR := hid (right_any k n s W hs)
  have HB := hid hbW
  have HC := hid hcW
  have hd : valOk ⟨k, n, s⟩ = (decide (rightV ⟨k, n, s⟩ = 0) && decide (n ≠ -9223372036854775808)) := by
    unfold valOk
    dsimp only
    congr 1
    rw [Bool.eq_iff_iff, decide_eq_true_eq, decide_eq_true_eq]
    omega
  rw [hd]
  clear hd hbW hcW
  by_cases h0 : rightV ⟨k, n, s⟩ = 0
  · rw [h0] at HR
    rw [decide_eq_true h0, Bool.true_and]
    clear h0
    by_cases hm : n = -9223372036854775808
    · have hm' : (n != -9223372036854775808) = false := by rw [hm]; rfl
      rw [decide_eq_false (fun h => h hm)]
      clear hm h1 h2
      go_enter Tryz.func42, Tryz.ntmps42
      go_wp2_with fail
      refine HR.out.mono ?_
      rintro e w1 ⟨rfl, hb1⟩
      have k1 := cells3W ((hb1.block w.heap.size hzW).trans HC.out)
      have HB1 := hid (HB.out.trans (hb1.mono HB.out.size))
      clear hb1 HR
      go_wp2
      go_ret
      exact ⟨rfl, HB1.out⟩
    · have hm' : (n != -9223372036854775808) = true := by rw [bne_iff_ne]; exact hm
      rw [decide_eq_true hm]
      clear hm h1 h2
      go_enter Tryz.func42, Tryz.ntmps42
      go_wp2_with fail
      refine HR.out.mono ?_
      rintro e w1 ⟨rfl, hb1⟩
      have k1 := cells3W ((hb1.block w.heap.size hzW).trans HC.out)
      have HB1 := hid (HB.out.trans (hb1.mono HB.out.size))
      clear hb1 HR
      go_wp2
      go_ret
      exact ⟨rfl, HB1.out⟩
  · rw [decide_eq_false h0, Bool.false_and]
    have h0' : (((rightV ⟨k, n, s⟩ : Nat) : Int) == 0) = false := by rw [beq_eq_false_iff_ne]; omega
    generalize ((rightV ⟨k, n, s⟩ : Nat) : Int) = r at HR h0'
    clear h0 h1 h2
    go_enter Tryz.func42, Tryz.ntmps42
    go_wp2_with fail
    refine HR.out.mono ?_
    rintro e w1 ⟨rfl, hb1⟩
    have HB1 := hid (HB.out.trans (hb1.mono HB.out.size))
    clear hb1 HR
    go_wp2
    go_ret
    exact ⟨rfl, HB1.out⟩
def empE (op : Int) (tb nm : List UInt8) (v : Vl) (n : Nat) : Bool := decide (op = 0) && (decide (tb = []) && (decide (nm = []) && (eqv v zV && decide (n = 0))))
theorem emptyExpr_any (op : Int) (tb nm : List UInt8) (vk vn : Int) (vs : List UInt8) (aa : Option Addr) (nn cc : Nat) (w : World) :
    Calls Tryz.prog 47 #[.agg #[.int .i64 0, .int .i64 op, .string (str8 tb), .string (str8 nm), .int .i64 vk, .int .i64 vn, .string (str8 vs), .slice aa nn cc]] w fun e w' => e = .returned (.bool (empE op tb nm ⟨vk, vn, vs⟩ nn)) ∧ Below w.heap.size w w' := by
  have htb := str8_empty tb
  have hnm := str8_empty nm
  have heq : ∀ W, (binOp .eql 23 (.agg #[.int .i64 vk, .int .i64 vn, .string (str8 vs)]) (.agg #[.int .i64 0, .int .i64 0, .string ⟨#[]⟩])).run Tryz.prog W = .ok (.bool (eqv ⟨vk, vn, vs⟩ zV)) W := fun W => run_eqv ⟨vk, vn, vs⟩ zV W
  have hgd := Tryz.eqGuardVal
  unfold empE
  by_cases h1 : op = 0
  · rw [decide_eq_true h1, Bool.true_and]
    have g1 : (op == 0) = true := by rw [h1]; rfl
    by_cases h2 : tb = []
    · rw [decide_eq_true h2, Bool.true_and]
      rw [decide_eq_true h2] at htb
      by_cases h3 : nm = []
      · rw [decide_eq_true h3, Bool.true_and]
        rw [decide_eq_true h3] at hnm
        by_cases h4 : eqv ⟨vk, vn, vs⟩ zV = true
        · rw [h4] at heq ⊢
          rw [Bool.true_and]
          by_cases h5 : nn = 0
          · rw [decide_eq_true h5]
            have g5 : ((nn : Int) == 0) = true := by rw [h5]; rfl
            clear h1 h2 h3 h4 h5
            obtain ⟨W, hW, hbW, hzW, hcW⟩ := box8 w (.cells #[.int .i64 0, .int .i64 op, .string (str8 tb), .string (str8 nm), .int .i64 vk, .int .i64 vn, .string (str8 vs), .slice aa nn cc] 26)
            have k0 := cells8 hcW
            have HB := hid hbW
            clear hbW hcW
            go_enter Tryz.func47, Tryz.ntmps47
            go_wp2
            go_ret
            exact ⟨rfl, HB.out⟩
          · rw [decide_eq_false h5]
            have g5 : ((nn : Int) == 0) = false := by rw [beq_eq_false_iff_ne]; omega
            clear h1 h2 h3 h4 h5
            obtain ⟨W, hW, hbW, hzW, hcW⟩ := box8 w (.cells #[.int .i64 0, .int .i64 op, .string (str8 tb), .string (str8 nm), .int .i64 vk, .int .i64 vn, .string (str8 vs), .slice aa nn cc] 26)
            have k0 := cells8 hcW
            have HB := hid hbW
            clear hbW hcW
            go_enter Tryz.func47, Tryz.ntmps47
            go_wp2
            go_ret
            exact ⟨rfl, HB.out⟩
        · have h4 : eqv ⟨vk, vn, vs⟩ zV = false := by simpa using h4
          rw [h4] at heq ⊢
          rw [Bool.false_and]
          clear h1 h2 h3 h4
          obtain ⟨W, hW, hbW, hzW, hcW⟩ := box8 w (.cells #[.int .i64 0, .int .i64 op, .string (str8 tb), .string (str8 nm), .int .i64 vk, .int .i64 vn, .string (str8 vs), .slice aa nn cc] 26)
          have k0 := cells8 hcW
          have HB := hid hbW
          clear hbW hcW
          go_enter Tryz.func47, Tryz.ntmps47
          go_wp2
          go_ret
          exact ⟨rfl, HB.out⟩
      · rw [decide_eq_false h3, Bool.false_and]
        rw [decide_eq_false h3] at hnm
        clear h1 h2 h3
        obtain ⟨W, hW, hbW, hzW, hcW⟩ := box8 w (.cells #[.int .i64 0, .int .i64 op, .string (str8 tb), .string (str8 nm), .int .i64 vk, .int .i64 vn, .string (str8 vs), .slice aa nn cc] 26)
        have k0 := cells8 hcW
        have HB := hid hbW
        clear hbW hcW
        go_enter Tryz.func47, Tryz.ntmps47
        go_wp2
        go_ret
        exact ⟨rfl, HB.out⟩
    · rw [decide_eq_false h2, Bool.false_and]
      rw [decide_eq_false h2] at htb
      clear h1 h2
      obtain ⟨W, hW, hbW, hzW, hcW⟩ := box8 w (.cells #[.int .i64 0, .int .i64 op, .string (str8 tb), .string (str8 nm), .int .i64 vk, .int .i64 vn, .string (str8 vs), .slice aa nn cc] 26)
      have k0 := cells8 hcW
      have HB := hid hbW
      clear hbW hcW
      go_enter Tryz.func47, Tryz.ntmps47
      go_wp2
      go_ret
      exact ⟨rfl, HB.out⟩
  · rw [decide_eq_false h1, Bool.false_and]
    have g1 : (op == 0) = false := by simpa using h1
    clear h1
    obtain ⟨W, hW, hbW, hzW, hcW⟩ := box8 w (.cells #[.int .i64 0, .int .i64 op, .string (str8 tb), .string (str8 nm), .int .i64 vk, .int .i64 vn, .string (str8 vs), .slice aa nn cc] 26)
    have k0 := cells8 hcW
    have HB := hid hbW
    clear hbW hcW
    go_enter Tryz.func47, Tryz.ntmps47
    go_wp2
    go_ret
    exact ⟨rfl, HB.out⟩
end Go.Proofs.YtnidnipiihhnaaaGreatDoor
