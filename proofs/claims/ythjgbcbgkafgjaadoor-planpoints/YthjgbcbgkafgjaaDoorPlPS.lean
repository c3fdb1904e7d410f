/- The program's Span: the contract (tools/plspan.py). -/
import Derived.Test.YthjgbcbgkafgjaaDoorPlPS1
import Derived.Test.YthjgbcbgkafgjaaDoorPlPS2
import Derived.Test.YthjgbcbgkafgjaaDoorPlPS3
namespace Go.Proofs.YthjgbcbgkafgjaaDoor
open Go.RowKit Go.Shelf
set_option linter.unusedVariables false
set_option linter.unusedSimpArgs false
set_option maxRecDepth 20000

theorem spanD_succ (d : Nat) (k op : Int) (tb nm : List UInt8) (v : Vl) (xs : List Ex) (col : Int) : spanD (d + 1) (.mk k op tb nm v xs) col = if k = 3 then (match xs with
      | [a, b] => if op = 2 then meetP (spanD d a col) (spanD d b col) else if op < 3 ∨ 8 < op ∨ op = 4 then allP else if (isCol a col && isVal b) = true then testP op (valX b) else if (isCol b col && isVal a) = true then testP (mirP op) (valX a) else allP
      | _ => allP) else allP := rfl

theorem keyV_le101 {x : Vl} (h : rightV x = 0) (c : List UInt8) (hc : c = keyV x ∨ c = keyV x ++ [0] ∨ c = []) : c.length ≤ 101 := by
  have := keyV_le h
  rcases hc with rfl | rfl | rfl
  · omega
  · rw [List.length_append, List.length_singleton]; omega
  · simp

theorem test_len (op : Int) (v : Vl) (h : rightV v = 0) : (testP op v).a.length ≤ 101 ∧ (testP op v).b.length ≤ 101 := by
  have h1 := keyV_le101 h (keyV v) (.inl rfl)
  have h2 := keyV_le101 h (keyV v ++ [0]) (.inr (.inl rfl))
  unfold testP
  split
  · simp [noneP]
  · split
    · exact ⟨h1, h2⟩
    · split
      · exact ⟨by simp, h1⟩
      · split
        · exact ⟨by simp, h2⟩
        · split
          · exact ⟨h2, by simp⟩
          · exact ⟨h1, by simp⟩

theorem isVal_right {x : Ex} (h : isVal x = true) : rightV (valX x) = 0 := by
  obtain ⟨k, op, tb, nm, v, xs⟩ := x
  unfold isVal at h
  rw [Bool.and_eq_true] at h
  exact of_decide_eq_true h.2

theorem meet_len {s t : Spn} {n : Nat} (hs : s.a.length ≤ n ∧ s.b.length ≤ n) (ht : t.a.length ≤ n ∧ t.b.length ≤ n) : (meetP s t).a.length ≤ n ∧ (meetP s t).b.length ≤ n := by
  simp only [meetP, meetA, meetB]
  constructor
  · split
    · exact ht.1
    · exact hs.1
  · split
    · split
      · split
        · exact ht.2
        · exact hs.2
      · exact hs.2
    · split
      · exact ht.2
      · simp

theorem span_len : ∀ (d : Nat) (x : Ex) (col : Int), (spanD d x col).a.length ≤ 101 ∧ (spanD d x col).b.length ≤ 101
  | 0, _, _ => by simp [spanD, allP]
  | d + 1, .mk k op tb nm v xs, col => by
    have hall : allP.a.length ≤ 101 ∧ allP.b.length ≤ 101 := by simp [allP]
    unfold spanD
    split
    · match xs with
      | [] => exact hall
      | [_] => exact hall
      | _ :: _ :: _ :: _ => exact hall
      | [a, b] =>
        dsimp only
        split
        · exact meet_len (span_len d a col) (span_len d b col)
        · split
          · exact hall
          · split
            · rename_i h
              rw [Bool.and_eq_true] at h
              exact test_len _ _ (isVal_right h.2)
            · split
              · rename_i h
                rw [Bool.and_eq_true] at h
                exact test_len _ _ (isVal_right h.2)
              · exact hall
    · exact hall

theorem tst_mir (n : Nat) (h : isTst (n : Int) = true) : ∃ m : Nat, m ≤ 8 ∧ tstM n = (m : Int) ∧ mirP (n : Int) = (m : Int) ∧ isTst (m : Int) = true := by
  have ho : n = 3 ∨ n = 5 ∨ n = 6 ∨ n = 7 ∨ n = 8 := by
    have := of_decide_eq_true h
    omega
  rcases ho with rfl | rfl | rfl | rfl | rfl
  · exact ⟨3, by decide, rfl, rfl, rfl⟩
  · exact ⟨7, by decide, rfl, rfl, rfl⟩
  · exact ⟨8, by decide, rfl, rfl, rfl⟩
  · exact ⟨5, by decide, rfl, rfl, rfl⟩
  · exact ⟨6, by decide, rfl, rfl, rfl⟩

theorem tsp_wrong (f t : Int) (v : Vl) (h : ¬ rightV v = 0) : tspP f t v = allP := by
  unfold tspP
  rw [if_neg h]

set_option maxHeartbeats 2000000 in
theorem pspan_kind (k op : Int) (tb nm : List UInt8) (vk vn : Int) (vs : List UInt8) (aa : Option Addr) (nn cc : Nat) (col : Int) (w : World) (hk : ¬ k = 3) :
    Calls Tryd.prog 9 #[.agg #[.int .i64 k, .int .i64 op, .string (str8 tb), .string (str8 nm), .int .i64 vk, .int .i64 vn, .string (str8 vs), .slice aa nn cc], .int .i64 col] w (SpP w allP) := by
  obtain ⟨z0, z1, hbW, hzW⟩ := alloc2 w (.cells #[.int .i64 k, .int .i64 op, .string (str8 tb), .string (str8 nm), .int .i64 vk, .int .i64 vn, .string (str8 vs), .slice aa nn cc] 26) (.cells #[.slice none 0 0, .slice none 0 0, .bool false] 31)
  obtain ⟨W, hW⟩ : ∃ W, (w.alloc (.cells #[.int .i64 k, .int .i64 op, .string (str8 tb), .string (str8 nm), .int .i64 vk, .int .i64 vn, .string (str8 vs), .slice aa nn cc] 26)).alloc (.cells #[.slice none 0 0, .slice none 0 0, .bool false] 31) = W := ⟨_, rfl⟩
  rw [hW] at z0 z1 hbW hzW
  have y0 := (cells8 z0).1
  have HZ := hid z1
  have HB := hid hbW
  have HL := hid (show w.heap.size + 1 < W.heap.size from by omega)
  clear z0 z1 hbW hzW
  go_enter Tryd.func9, Tryd.ntmps9
  go_wp2_with (go_at_call 18; refine (pall_any _).mono ?_; rintro e w3 ⟨rfl, hb3⟩
               have HZ3 := hid ((hb3.block (w.heap.size + 1) HL.out).trans HZ.out)
               have HB3 := htr HB hb3
               obtain ⟨m0, m1, m2, m3, m4, m5⟩ := row3 HZ3.out
               clear hb3)
  exact bodyPost_ret (v := .agg #[.slice none 0 0, .slice none 0 0, .bool false]) (results_cell_row (p := 4) (ty := 31) rfl _ _ (w.heap.size + 1) 31 _ (0, 0) _ rfl (set3 HZ3.out _ _ _) Tryd.underlying31 rfl Tryd.infoSpan) rfl ⟨_, _, rfl, World.ownsRow_nil _ _ _ _, World.ownsRow_nil _ _ _ _, apart_nil rfl, below3 HB3.out (by omega) _ _ _⟩

set_option maxHeartbeats 2000000 in
theorem pspan_count (op : Int) (tb nm : List UInt8) (vk vn : Int) (vs : List UInt8) (aa : Option Addr) (nn cc : Nat) (col : Int) (w : World) (hn : ¬ ((nn : Int) = 2)) (hm : nn ≤ 9223372036854775807) :
    Calls Tryd.prog 9 #[.agg #[.int .i64 3, .int .i64 op, .string (str8 tb), .string (str8 nm), .int .i64 vk, .int .i64 vn, .string (str8 vs), .slice aa nn cc], .int .i64 col] w (SpP w allP) := by
  obtain ⟨z0, z1, hbW, hzW⟩ := alloc2 w (.cells #[.int .i64 3, .int .i64 op, .string (str8 tb), .string (str8 nm), .int .i64 vk, .int .i64 vn, .string (str8 vs), .slice aa nn cc] 26) (.cells #[.slice none 0 0, .slice none 0 0, .bool false] 31)
  obtain ⟨W, hW⟩ : ∃ W, (w.alloc (.cells #[.int .i64 3, .int .i64 op, .string (str8 tb), .string (str8 nm), .int .i64 vk, .int .i64 vn, .string (str8 vs), .slice aa nn cc] 26)).alloc (.cells #[.slice none 0 0, .slice none 0 0, .bool false] 31) = W := ⟨_, rfl⟩
  rw [hW] at z0 z1 hbW hzW
  have y0 := (cells8 z0).1
  have y7 := (cells8 z0).2.2.2.2.2.2.2
  have HZ := hid z1
  have HB := hid hbW
  have HL := hid (show w.heap.size + 1 < W.heap.size from by omega)
  clear z0 z1 hbW hzW
  go_enter Tryd.func9, Tryd.ntmps9
  go_wp2_with (go_at_call 18; refine (pall_any _).mono ?_; rintro e w3 ⟨rfl, hb3⟩
               have HZ3 := hid ((hb3.block (w.heap.size + 1) HL.out).trans HZ.out)
               have HB3 := htr HB hb3
               obtain ⟨m0, m1, m2, m3, m4, m5⟩ := row3 HZ3.out
               clear hb3)
  exact bodyPost_ret (v := .agg #[.slice none 0 0, .slice none 0 0, .bool false]) (results_cell_row (p := 4) (ty := 31) rfl _ _ (w.heap.size + 1) 31 _ (0, 0) _ rfl (set3 HZ3.out _ _ _) Tryd.underlying31 rfl Tryd.infoSpan) rfl ⟨_, _, rfl, World.ownsRow_nil _ _ _ _, World.ownsRow_nil _ _ _ _, apart_nil rfl, below3 HB3.out (by omega) _ _ _⟩

theorem rg_parts {k op : Int} {tb nm : List UInt8} {v : Vl} {xs : List Ex} (h : RgE (.mk k op tb nm v xs)) : (-9223372036854775808 ≤ v.n ∧ v.n ≤ 9223372036854775807) ∧ v.s.length ≤ 9223372036854775807 ∧ ∀ x ∈ xs, RgE x := by
  cases h with
  | mk _ _ _ _ _ _ h1 h2 h3 h4 h5 hx => exact ⟨⟨h1, h2⟩, h3, hx⟩

/-- WHAT THE PROGRAM's Span ANSWERS: in new memory. -/
theorem pspan_any (col : Int) : ∀ (d : Nat) (S : Nat → Prop) (x : Ex) (v : Value) (w : World), TstAt w → RgE x → ExV S w x v → fewP d x = true → Calls Tryd.prog 9 #[v, .int .i64 col] w (SpP w (spanD d x col))
  | 0, S, x, v, w, _, _, _, hf => by cases hf
  | d + 1, S, .mk k op tb nm vv xs, v, w, ht, hr, hx, hf => by
    have ih := pspan_any col d S
    obtain ⟨hv1, hv2, hrx⟩ := rg_parts hr
    obtain ⟨hl3, hfx⟩ := few_mem hf
    obtain ⟨k', op', tb', nm', vk, vn, vs, ys, aa, nn, cc, he, rfl, ha⟩ := hx
    simp only [Ex.mk.injEq] at he
    obtain ⟨rfl, rfl, rfl, rfl, rfl, rfl⟩ := he
    by_cases hk : k = 3
    · subst hk
      obtain ⟨a0, c0, hform, hc0⟩ := ha.form
      simp only [Value.slice.injEq] at hform
      obtain ⟨rfl, rfl, rfl⟩ := hform
      by_cases h2 : xs.length = 2
      · match xs, h2 with
        | [a, b], _ =>
          rw [spanD_succ, if_pos rfl]
          dsimp only
          obtain ⟨_, g2, g3, bb, off, cs1, rfl, _, hel1, hc1⟩ := sl_get (args_sl ha) (j := 0) (x := a) rfl
          obtain ⟨_, _, _, bb', off', cs2, hbo, _, hel2, hc2⟩ := sl_get (args_sl ha) (j := 1) (x := b) rfl
          simp only [Option.some.injEq, Addr.mk.injEq, and_true] at hbo
          obtain ⟨rfl, rfl⟩ := hbo
          have hva := hel1.v
          have hvb := hel2.v
          have hra := hrx a (by simp)
          have hrb := hrx b (by simp)
          have hfa := hfx a (by simp)
          have hfb := hfx b (by simp)
          obtain ⟨k1, op1, tb1, nm1, vk1, vn1, vs1, ys1, aa1, nn1, cc1, rfl, rfl, ha1⟩ := hel1
          obtain ⟨k2, op2, tb2, nm2, vk2, vn2, vs2, ys2, aa2, nn2, cc2, rfl, rfl, ha2⟩ := hel2
          have h8a : At8 w bb off k1 op1 tb1 nm1 vk1 vn1 vs1 (.slice aa1 nn1 cc1) := by
            have q := fun i u h => hc1 i u h
            simp only [Nat.zero_mul, Nat.add_zero] at q
            exact ⟨q 0 _ rfl, q 1 _ rfl, q 2 _ rfl, q 3 _ rfl, q 4 _ rfl, q 5 _ rfl, q 6 _ rfl, q 7 _ rfl⟩
          have h8b : At8 w bb (off + 8) k2 op2 tb2 nm2 vk2 vn2 vs2 (.slice aa2 nn2 cc2) := by
            have q := fun i u h => hc2 i u h
            simp only [Nat.one_mul] at q
            exact ⟨q 0 _ rfl, q 1 _ rfl, q 2 _ rfl, q 3 _ rfl, q 4 _ rfl, q 5 _ rfl, q 6 _ rfl, q 7 _ rfl⟩
          obtain ⟨n1, n1l, _⟩ := rg_parts hra
          obtain ⟨n2, n2l, _⟩ := rg_parts hrb
          have hcc : 2 ≤ cc := g2
          by_cases ho : op = 2
          · rw [if_pos ho]
            have la := span_len d (.mk k1 op1 tb1 nm1 ⟨vk1, vn1, vs1⟩ ys1) col
            have lb := span_len d (.mk k2 op2 tb2 nm2 ⟨vk2, vn2, vs2⟩ ys2) col
            exact pspan_and op tb nm vk vn vs bb off cc col w k1 op1 tb1 nm1 vk1 vn1 vs1 aa1 nn1 cc1 k2 op2 tb2 nm2 vk2 vn2 vs2 aa2 nn2 cc2 h8a h8b hcc g3 ht (by simpa using ho) _ _ (by omega) (by omega) (by omega) (by omega)
              (fun V hV => ih _ _ V (ht.on hV) hra (hva.to (R := fun _ => False) (Spares.of_new hV) (fun b hb _ => ⟨id, hb⟩)) hfa)
              (fun V hV => ih _ _ V (ht.on hV) hrb (hvb.to (R := fun _ => False) (Spares.of_new hV) (fun b hb _ => ⟨id, hb⟩)) hfb)
          · rw [if_neg ho]
            cases htst : isTst op with
            | false =>
              have hno : op < 3 ∨ 8 < op ∨ op = 4 := by
                have := of_decide_eq_false htst
                omega
              rw [if_pos hno]
              exact pspan_no op tb nm vk vn vs bb off cc col w k1 op1 tb1 nm1 vk1 vn1 vs1 aa1 nn1 cc1 k2 op2 tb2 nm2 vk2 vn2 vs2 aa2 nn2 cc2 h8a h8b hcc g3 ht ho htst
            | true =>
              have hyes : op = 3 ∨ op = 5 ∨ op = 6 ∨ op = 7 ∨ op = 8 := of_decide_eq_true htst
              rw [if_neg (by omega)]
              obtain ⟨n, rfl⟩ : ∃ n : Nat, op = (n : Int) := ⟨op.toNat, by omega⟩
              have hv2' : isVal (.mk k2 op2 tb2 nm2 ⟨vk2, vn2, vs2⟩ ys2) = (decide (k2 = 1) && decide (rightV ⟨vk2, vn2, vs2⟩ = 0)) := rfl
              have hv1' : isVal (.mk k1 op1 tb1 nm1 ⟨vk1, vn1, vs1⟩ ys1) = (decide (k1 = 1) && decide (rightV ⟨vk1, vn1, vs1⟩ = 0)) := rfl
              have hcol2 : k2 = 1 → isCol (.mk k2 op2 tb2 nm2 ⟨vk2, vn2, vs2⟩ ys2) col = false := fun h => by
                show (decide (k2 = 2) && _) = false
                rw [decide_eq_false (by omega), Bool.false_and]
              have hcol1 : k1 = 1 → isCol (.mk k1 op1 tb1 nm1 ⟨vk1, vn1, vs1⟩ ys1) col = false := fun h => by
                show (decide (k1 = 2) && _) = false
                rw [decide_eq_false (by omega), Bool.false_and]
              obtain ⟨m, hm, hmir, hmir2, hmt⟩ := tst_mir n htst
              have hL := pspan_left n tb nm vk vn vs bb off cc col w k1 op1 tb1 nm1 vk1 vn1 vs1 aa1 nn1 cc1 k2 op2 tb2 nm2 vk2 vn2 vs2 aa2 nn2 cc2 h8a h8b hcc g3 ht (by omega) (by omega) ho ys1 ys2 htst
              have hR0 := pspan_right0 n m tb nm vk vn vs bb off cc col w k1 op1 tb1 nm1 vk1 vn1 vs1 aa1 nn1 cc1 k2 op2 tb2 nm2 vk2 vn2 vs2 aa2 nn2 cc2 h8a h8b hcc g3 ht (by omega) (by omega) ho hm (by omega) hmir ys1 ys2 htst
              have hR1 := pspan_right1 n m tb nm vk vn vs bb off cc col w k1 op1 tb1 nm1 vk1 vn1 vs1 aa1 nn1 cc1 k2 op2 tb2 nm2 vk2 vn2 vs2 aa2 nn2 cc2 h8a h8b hcc g3 ht (by omega) (by omega) ho hm (by omega) hmir ys1 ys2 htst
              have hA00 := pspan_all00 (n : Int) tb nm vk vn vs bb off cc col w k1 op1 tb1 nm1 vk1 vn1 vs1 aa1 nn1 cc1 k2 op2 tb2 nm2 vk2 vn2 vs2 aa2 nn2 cc2 h8a h8b hcc g3 ht ho ys1 ys2 htst
              have hA01 := pspan_all01 (n : Int) tb nm vk vn vs bb off cc col w k1 op1 tb1 nm1 vk1 vn1 vs1 aa1 nn1 cc1 k2 op2 tb2 nm2 vk2 vn2 vs2 aa2 nn2 cc2 h8a h8b hcc g3 ht ho ys1 ys2 htst
              have hA10 := pspan_all10 (n : Int) tb nm vk vn vs bb off cc col w k1 op1 tb1 nm1 vk1 vn1 vs1 aa1 nn1 cc1 k2 op2 tb2 nm2 vk2 vn2 vs2 aa2 nn2 cc2 h8a h8b hcc g3 ht ho ys1 ys2 htst
              have hA11 := pspan_all11 (n : Int) tb nm vk vn vs bb off cc col w k1 op1 tb1 nm1 vk1 vn1 vs1 aa1 nn1 cc1 k2 op2 tb2 nm2 vk2 vn2 vs2 aa2 nn2 cc2 h8a h8b hcc g3 ht ho ys1 ys2 htst
              have e2 : valX (.mk k2 op2 tb2 nm2 ⟨vk2, vn2, vs2⟩ ys2) = ⟨vk2, vn2, vs2⟩ := rfl
              have e1 : valX (.mk k1 op1 tb1 nm1 ⟨vk1, vn1, vs1⟩ ys1) = ⟨vk1, vn1, vs1⟩ := rfl
              rw [hv1', hv2', e1, e2, hmir2]
              -- the right side: the column is there, and on the left is a value
              have right : isCol (.mk k2 op2 tb2 nm2 ⟨vk2, vn2, vs2⟩ ys2) col = true → k1 = 1 → tspP (tstF m) (tstT m) ⟨vk1, vn1, vs1⟩ = if rightV ⟨vk1, vn1, vs1⟩ = 0 then testP (m : Int) ⟨vk1, vn1, vs1⟩ else allP := fun _ _ => by
                split
                · rename_i h; exact tsp_test m _ h hmt
                · rename_i h; exact tsp_wrong _ _ _ h
              cases hc1 : isCol (.mk k1 op1 tb1 nm1 ⟨vk1, vn1, vs1⟩ ys1) col with
              | true =>
                by_cases hk2 : k2 = 1
                · have hcb := hcol2 hk2
                  have := hL hc1 (by simpa using hk2) n2 n2l
                  rw [hcb]
                  by_cases hrv : rightV ⟨vk2, vn2, vs2⟩ = 0
                  · rw [tsp_test n _ hrv htst] at this
                    simpa [hk2, hrv] using this
                  · rw [tsp_wrong _ _ _ hrv] at this
                    simpa [hk2, hrv] using this
                · cases hc2 : isCol (.mk k2 op2 tb2 nm2 ⟨vk2, vn2, vs2⟩ ys2) col with
                  | true =>
                    have hk1 : ¬ k1 = 1 := fun h => by rw [hcol1 h] at hc1; cases hc1
                    have := hA11 hc1 hk2 hc2 hk1
                    simpa [hk2, hk1] using this
                  | false =>
                    have := hA10 hc1 hk2 hc2
                    simpa [hk2] using this
              | false =>
                cases hc2 : isCol (.mk k2 op2 tb2 nm2 ⟨vk2, vn2, vs2⟩ ys2) col with
                | true =>
                  by_cases hk1 : k1 = 1
                  · have := hR0 hc1 hc2 (by simpa using hk1) n1 n1l
                    rw [right hc2 hk1] at this
                    by_cases hrv : rightV ⟨vk1, vn1, vs1⟩ = 0
                    · simpa [hk1, hrv] using this
                    · simpa [hk1, hrv] using this
                  · have := hA01 hc1 hc2 hk1
                    simpa [hk1] using this
                | false =>
                  have := hA00 hc1 hc2
                  simpa using this
      · have hall : spanD (d + 1) (.mk 3 op tb nm ⟨vk, vn, vs⟩ xs) col = allP := by
          rw [spanD_succ, if_pos rfl]
          clear hc0 ha hr hf hrx hl3 hfx
          match xs, h2 with
          | [], _ => rfl
          | [_], _ => rfl
          | [_, _], h => exact absurd rfl h
          | _ :: _ :: _ :: _, _ => rfl
        rw [hall]
        exact pspan_count op tb nm vk vn vs _ xs.length _ col w (by omega) (by omega)
    · have hall : spanD (d + 1) (.mk k op tb nm ⟨vk, vn, vs⟩ xs) col = allP := by
        exact (spanD_succ _ _ _ _ _ _ _ _).trans (if_neg hk)
      rw [hall]
      exact pspan_kind k op tb nm vk vn vs aa nn cc col w hk

end Go.Proofs.YthjgbcbgkafgjaaDoor
