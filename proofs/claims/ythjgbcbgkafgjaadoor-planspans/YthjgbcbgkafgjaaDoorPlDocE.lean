/- The document's own Span: the contract (tools/pldoce.py). -/
import Derived.Test.YthjgbcbgkafgjaaDoorPlDocE1
import Derived.Test.YthjgbcbgkafgjaaDoorPlDocE2
import Derived.Test.YthjgbcbgkafgjaaDoorPlPS
namespace Go.Proofs.YthjgbcbgkafgjaaDoor
open Go.RowKit Go.Shelf
set_option linter.unusedVariables false
set_option linter.unusedSimpArgs false
set_option maxRecDepth 20000

/-- What the document's Span answers. -/
theorem yspan_any (col : Int) : ∀ (d : Nat) (S : Nat → Prop) (x : Ex) (v : Value) (w : World), RgE x → ExV S w x v → fewP d x = true → Calls Tryd.prog 11 #[v, .int .i64 col] w (YP w (spanD d x col))
  | 0, S, x, v, w, _, _, hf => by cases hf
  | d + 1, S, .mk k op tb nm vv xs, v, w, hr, hx, hf => by
    have ih := yspan_any col d S
    obtain ⟨hv1, hv2, hrx⟩ := rg_parts hr
    obtain ⟨hl3, hfx⟩ := few_mem hf
    obtain ⟨k', op', tb', nm', vk, vn, vs, ys, aa, nn, cc, he, rfl, ha⟩ := hx
    simp only [Ex.mk.injEq] at he
    obtain ⟨rfl, rfl, rfl, rfl, rfl, rfl⟩ := he
    by_cases hk : k = 3
    · subst hk
      obtain ⟨a0, c0, hform, hc0⟩ := ha.form
      simp only [Value.slice.injEq] at hform
      obtain ⟨rfl, rfl, rfl⟩ := hform
      by_cases h2 : xs.length = 2
      · match xs, h2 with
        | [a, b], _ =>
          rw [spanD_succ, if_pos rfl]
          dsimp only
          obtain ⟨_, g2, g3, bb, off, cs1, rfl, _, hel1, hc1⟩ := sl_get (args_sl ha) (j := 0) (x := a) rfl
          obtain ⟨_, _, _, bb', off', cs2, hbo, _, hel2, hc2⟩ := sl_get (args_sl ha) (j := 1) (x := b) rfl
          simp only [Option.some.injEq, Addr.mk.injEq, and_true] at hbo
          obtain ⟨rfl, rfl⟩ := hbo
          have hva := hel1.v
          have hvb := hel2.v
          have hra := hrx a (by simp)
          have hrb := hrx b (by simp)
          have hfa := hfx a (by simp)
          have hfb := hfx b (by simp)
          obtain ⟨k1, op1, tb1, nm1, vk1, vn1, vs1, ys1, aa1, nn1, cc1, rfl, rfl, ha1⟩ := hel1
          obtain ⟨k2, op2, tb2, nm2, vk2, vn2, vs2, ys2, aa2, nn2, cc2, rfl, rfl, ha2⟩ := hel2
          have h8a : At8 w bb off k1 op1 tb1 nm1 vk1 vn1 vs1 (.slice aa1 nn1 cc1) := by
            have q := fun i u h => hc1 i u h
            simp only [Nat.zero_mul, Nat.add_zero] at q
            exact ⟨q 0 _ rfl, q 1 _ rfl, q 2 _ rfl, q 3 _ rfl, q 4 _ rfl, q 5 _ rfl, q 6 _ rfl, q 7 _ rfl⟩
          have h8b : At8 w bb (off + 8) k2 op2 tb2 nm2 vk2 vn2 vs2 (.slice aa2 nn2 cc2) := by
            have q := fun i u h => hc2 i u h
            simp only [Nat.one_mul] at q
            exact ⟨q 0 _ rfl, q 1 _ rfl, q 2 _ rfl, q 3 _ rfl, q 4 _ rfl, q 5 _ rfl, q 6 _ rfl, q 7 _ rfl⟩
          obtain ⟨n1, n1l, _⟩ := rg_parts hra
          obtain ⟨n2, n2l, _⟩ := rg_parts hrb
          have hcc : 2 ≤ cc := g2
          by_cases ho : op = 2
          · rw [if_pos ho]
            exact yspan_and op tb nm vk vn vs bb off cc col w k1 op1 tb1 nm1 vk1 vn1 vs1 aa1 nn1 cc1 k2 op2 tb2 nm2 vk2 vn2 vs2 aa2 nn2 cc2 h8a h8b hcc g3 (by simpa using ho) _ _
              (fun V hV => ih _ _ V hra (hva.to (R := fun _ => False) (Spares.of_new hV) (fun b hb _ => ⟨id, hb⟩)) hfa)
              (fun V hV => ih _ _ V hrb (hvb.to (R := fun _ => False) (Spares.of_new hV) (fun b hb _ => ⟨id, hb⟩)) hfb)
          · rw [if_neg ho]
            by_cases hno : op < 3 ∨ 8 < op ∨ op = 4
            · rw [if_pos hno]
              exact yspan_no op tb nm vk vn vs bb off cc col w k1 op1 tb1 nm1 vk1 vn1 vs1 aa1 nn1 cc1 k2 op2 tb2 nm2 vk2 vn2 vs2 aa2 nn2 cc2 h8a h8b hcc g3 ho hno
            · rw [if_neg hno]
              have hop : op = 3 ∨ op = 5 ∨ op = 6 ∨ op = 7 ∨ op = 8 := by omega
              have e2 : valX (.mk k2 op2 tb2 nm2 ⟨vk2, vn2, vs2⟩ ys2) = ⟨vk2, vn2, vs2⟩ := rfl
              have e1 : valX (.mk k1 op1 tb1 nm1 ⟨vk1, vn1, vs1⟩ ys1) = ⟨vk1, vn1, vs1⟩ := rfl
              rw [e1, e2]
              cases hp : isCol (.mk k1 op1 tb1 nm1 ⟨vk1, vn1, vs1⟩ ys1) col <;> cases hs : isVal (.mk k2 op2 tb2 nm2 ⟨vk2, vn2, vs2⟩ ys2) <;> cases hq : isCol (.mk k2 op2 tb2 nm2 ⟨vk2, vn2, vs2⟩ ys2) col <;> cases hr : isVal (.mk k1 op1 tb1 nm1 ⟨vk1, vn1, vs1⟩ ys1)
              all_goals simp only [Bool.false_and, Bool.and_false, Bool.and_self, if_true, if_false, Bool.false_eq_true]
              · exact yspan_all00 op tb nm vk vn vs bb off cc col w k1 op1 tb1 nm1 vk1 vn1 vs1 aa1 nn1 cc1 k2 op2 tb2 nm2 vk2 vn2 vs2 aa2 nn2 cc2 h8a h8b hcc g3 ho hop ys1 ys2 n1l n2l _ _ hp hq hr hs
              · exact yspan_all00 op tb nm vk vn vs bb off cc col w k1 op1 tb1 nm1 vk1 vn1 vs1 aa1 nn1 cc1 k2 op2 tb2 nm2 vk2 vn2 vs2 aa2 nn2 cc2 h8a h8b hcc g3 ho hop ys1 ys2 n1l n2l _ _ hp hq hr hs
              · exact yspan_all01 op tb nm vk vn vs bb off cc col w k1 op1 tb1 nm1 vk1 vn1 vs1 aa1 nn1 cc1 k2 op2 tb2 nm2 vk2 vn2 vs2 aa2 nn2 cc2 h8a h8b hcc g3 ho hop ys1 ys2 n1l n2l _ hp hq hr hs
              · exact yspan_right0 op tb nm vk vn vs bb off cc col w k1 op1 tb1 nm1 vk1 vn1 vs1 aa1 nn1 cc1 k2 op2 tb2 nm2 vk2 vn2 vs2 aa2 nn2 cc2 h8a h8b hcc g3 ho hop ys1 ys2 n1l n2l _ hp hq hr hs n1 (isVal_right hr)
              · exact yspan_all00 op tb nm vk vn vs bb off cc col w k1 op1 tb1 nm1 vk1 vn1 vs1 aa1 nn1 cc1 k2 op2 tb2 nm2 vk2 vn2 vs2 aa2 nn2 cc2 h8a h8b hcc g3 ho hop ys1 ys2 n1l n2l _ _ hp hq hr hs
              · exact yspan_all00 op tb nm vk vn vs bb off cc col w k1 op1 tb1 nm1 vk1 vn1 vs1 aa1 nn1 cc1 k2 op2 tb2 nm2 vk2 vn2 vs2 aa2 nn2 cc2 h8a h8b hcc g3 ho hop ys1 ys2 n1l n2l _ _ hp hq hr hs
              · exact yspan_all01 op tb nm vk vn vs bb off cc col w k1 op1 tb1 nm1 vk1 vn1 vs1 aa1 nn1 cc1 k2 op2 tb2 nm2 vk2 vn2 vs2 aa2 nn2 cc2 h8a h8b hcc g3 ho hop ys1 ys2 n1l n2l _ hp hq hr hs
              · exact yspan_right0 op tb nm vk vn vs bb off cc col w k1 op1 tb1 nm1 vk1 vn1 vs1 aa1 nn1 cc1 k2 op2 tb2 nm2 vk2 vn2 vs2 aa2 nn2 cc2 h8a h8b hcc g3 ho hop ys1 ys2 n1l n2l _ hp hq hr hs n1 (isVal_right hr)
              · exact yspan_all10 op tb nm vk vn vs bb off cc col w k1 op1 tb1 nm1 vk1 vn1 vs1 aa1 nn1 cc1 k2 op2 tb2 nm2 vk2 vn2 vs2 aa2 nn2 cc2 h8a h8b hcc g3 ho hop ys1 ys2 n1l n2l _ hp hq hr hs
              · exact yspan_all10 op tb nm vk vn vs bb off cc col w k1 op1 tb1 nm1 vk1 vn1 vs1 aa1 nn1 cc1 k2 op2 tb2 nm2 vk2 vn2 vs2 aa2 nn2 cc2 h8a h8b hcc g3 ho hop ys1 ys2 n1l n2l _ hp hq hr hs
              · exact yspan_all11 op tb nm vk vn vs bb off cc col w k1 op1 tb1 nm1 vk1 vn1 vs1 aa1 nn1 cc1 k2 op2 tb2 nm2 vk2 vn2 vs2 aa2 nn2 cc2 h8a h8b hcc g3 ho hop ys1 ys2 n1l n2l hp hq hr hs
              · exact yspan_right1 op tb nm vk vn vs bb off cc col w k1 op1 tb1 nm1 vk1 vn1 vs1 aa1 nn1 cc1 k2 op2 tb2 nm2 vk2 vn2 vs2 aa2 nn2 cc2 h8a h8b hcc g3 ho hop ys1 ys2 n1l n2l hp hq hr hs n1 (isVal_right hr)
              · exact yspan_left op tb nm vk vn vs bb off cc col w k1 op1 tb1 nm1 vk1 vn1 vs1 aa1 nn1 cc1 k2 op2 tb2 nm2 vk2 vn2 vs2 aa2 nn2 cc2 h8a h8b hcc g3 ho hop ys1 ys2 n1l n2l _ _ hp hq hr hs n2 (isVal_right hs)
              · exact yspan_left op tb nm vk vn vs bb off cc col w k1 op1 tb1 nm1 vk1 vn1 vs1 aa1 nn1 cc1 k2 op2 tb2 nm2 vk2 vn2 vs2 aa2 nn2 cc2 h8a h8b hcc g3 ho hop ys1 ys2 n1l n2l _ _ hp hq hr hs n2 (isVal_right hs)
              · exact yspan_left op tb nm vk vn vs bb off cc col w k1 op1 tb1 nm1 vk1 vn1 vs1 aa1 nn1 cc1 k2 op2 tb2 nm2 vk2 vn2 vs2 aa2 nn2 cc2 h8a h8b hcc g3 ho hop ys1 ys2 n1l n2l _ _ hp hq hr hs n2 (isVal_right hs)
              · exact yspan_left op tb nm vk vn vs bb off cc col w k1 op1 tb1 nm1 vk1 vn1 vs1 aa1 nn1 cc1 k2 op2 tb2 nm2 vk2 vn2 vs2 aa2 nn2 cc2 h8a h8b hcc g3 ho hop ys1 ys2 n1l n2l _ _ hp hq hr hs n2 (isVal_right hs)
      · have hall : spanD (d + 1) (.mk 3 op tb nm ⟨vk, vn, vs⟩ xs) col = allP := by
          rw [spanD_succ, if_pos rfl]
          clear hc0 ha hr hf hrx hl3 hfx
          match xs, h2 with
          | [], _ => rfl
          | [_], _ => rfl
          | [_, _], h => exact absurd rfl h
          | _ :: _ :: _ :: _, _ => rfl
        rw [hall]
        exact yspan_count op tb nm vk vn vs _ xs.length _ col w (by omega) (by omega)
    · have hall : spanD (d + 1) (.mk k op tb nm ⟨vk, vn, vs⟩ xs) col = allP := by
        exact (spanD_succ _ _ _ _ _ _ _ _).trans (if_neg hk)
      rw [hall]
      exact yspan_kind k op tb nm vk vn vs aa nn cc col w hk

end Go.Proofs.YthjgbcbgkafgjaaDoor
