/- PlanPoints is walked (tools/plpoints.py). -/
import Derived.Test.YthjgbcbgkafgjaaDoorPlSmall
import Derived.Test.YthjgbcbgkafgjaaDoorPlMeetsL
namespace Go.Proofs.YthjgbcbgkafgjaaDoor
open Go.RowKit Go.Shelf
set_option linter.unusedVariables false
set_option linter.unusedSimpArgs false
set_option maxRecDepth 20000

theorem exec_bs2 {a : Act} {oi : Oper} {x y : Operand} {c0 c1 c2 c3 c4 c5 c6 c7 d0 d1 d2 d3 d4 d5 d6 d7 : Value} (ki : oi.op = .buildSlice 24 2 #[(0, x), (1, y)]) (hx : a.eval x = .agg #[c0, c1, c2, c3, c4, c5, c6, c7]) (hy : a.eval y = .agg #[d0, d1, d2, d3, d4, d5, d6, d7]) (V : World) :
    (execOp a.eval oi).run Tryd.prog V = .ok (.value (.slice (some ⟨V.heap.size, 0, none⟩) 2 2)) (V.alloc (.cells #[c0, c1, c2, c3, c4, c5, c6, c7, d0, d1, d2, d3, d4, d5, d6, d7] 26)) := by
  have u := Tryd.underlying24
  obtain ⟨r, hr⟩ : ∃ r, a.eval = r := ⟨_, rfl⟩
  rw [hr] at hx hy ⊢
  unfold execOp
  simp only [ki, hx, hy, List.map_toArray, List.map_cons, List.map_nil]
  go_simp

/-- A test's expression of one's own. -/
def Px (W : World) (g b : Nat) (op k n : Int) (s : List UInt8) (V : World) : Prop :=
  Below W.heap.size W V ∧ V.heap[g]? = some (.cells #[.int .i64 3, .int .i64 op, .string ⟨#[]⟩, .string ⟨#[]⟩, .int .i64 0, .int .i64 0, .string ⟨#[]⟩, .slice (some ⟨b, 0, none⟩) 2 2] 26 (0, 0)) ∧ V.heap[b]? = some (.cells #[.int .i64 2, .int .i64 0, .string ⟨#[]⟩, .string ⟨#[]⟩, .int .i64 1, .int .i64 3, .string (str8 []), .slice none 0 0, .int .i64 1, .int .i64 0, .string ⟨#[]⟩, .string ⟨#[]⟩, .int .i64 k, .int .i64 n, .string (str8 s), .slice none 0 0] 26 (0, 0))

theorem px_done {W V : World} {g b : Nat} {op k n : Int} {s : List UInt8} {zs : Array Value} (hb : Below W.heap.size W V) (hg : W.heap.size ≤ g) (hne : b ≠ g) (hc : V.heap[g]? = some (.cells zs 26 (0, 0))) (h16 : V.heap[b]? = some (.cells #[.int .i64 2, .int .i64 0, .string ⟨#[]⟩, .string ⟨#[]⟩, .int .i64 1, .int .i64 3, .string (str8 []), .slice none 0 0, .int .i64 1, .int .i64 0, .string ⟨#[]⟩, .string ⟨#[]⟩, .int .i64 k, .int .i64 n, .string (str8 s), .slice none 0 0] 26 (0, 0))) :
    Px W g b op k n s (V.setRow g #[.int .i64 3, .int .i64 op, .string ⟨#[]⟩, .string ⟨#[]⟩, .int .i64 0, .int .i64 0, .string ⟨#[]⟩, .slice (some ⟨b, 0, none⟩) 2 2]) :=
  ⟨below_setRow hb hg _, setRow_heap V g _ #[.int .i64 3, .int .i64 op, .string ⟨#[]⟩, .string ⟨#[]⟩, .int .i64 0, .int .i64 0, .string ⟨#[]⟩, .slice (some ⟨b, 0, none⟩) 2 2] _ _ hc, (setRow_other _ _ _ _ hne).trans h16⟩

set_option maxHeartbeats 4000000 in
theorem planPoints_law (op : Int) (v x : Vl) (w : World) (ht : TstAt w) (hv : OkV v) (hx : OkV x) (o1 : -9223372036854775808 ≤ op) (o2 : op ≤ 9223372036854775807) :
    Calls Tryd.prog 6 #[.int .i64 op, .agg #[.int .i64 v.k, .int .i64 v.n, .string (str8 v.s)], .agg #[.int .i64 x.k, .int .i64 x.n, .string (str8 x.s)]] w fun e w' => e = .returned (.bool true) ∧ Below w.heap.size w w' := by
  obtain ⟨k, n, s⟩ := v
  obtain ⟨k1, n1, s1⟩ := x
  obtain ⟨hvk, hvn, hvs⟩ := hv
  obtain ⟨hxk, hxn, hxs⟩ := hx
  dsimp only at hvk hvn hvs hxk hxn hxs ⊢
  obtain ⟨z0, z1, hbW, hzW⟩ := alloc2 w (.cells #[.int .i64 k, .int .i64 n, .string (str8 s)] 23) (.cells #[.int .i64 k1, .int .i64 n1, .string (str8 s1)] 23)
  obtain ⟨W, hW⟩ : ∃ W, (w.alloc (.cells #[.int .i64 k, .int .i64 n, .string (str8 s)] 23)).alloc (.cells #[.int .i64 k1, .int .i64 n1, .string (str8 s1)] 23) = W := ⟨_, rfl⟩
  rw [hW] at z0 z1 hbW hzW
  have HT := hid (ht.on hbW)
  have HB := hid hbW
  have HR := hid (fun (V : World) (hb : Below W.heap.size W V) => And.intro (row3 ((hb.block w.heap.size (by omega)).trans z0)) (row3 ((hb.block (w.heap.size + 1) (by omega)).trans z1)))
  have HRV := hid (fun (V : World) => right_any k n s V (by omega))
  have HRX := hid (fun (V : World) => right_any k1 n1 s1 V (by omega))
  have HKX := hid (fun (V : World) => key_any k1 n1 s1 V (by omega))
  have HCM := hid (fun (V : World) => compare_any k1 n1 k n s1 s V)
  have HVR := hid (show RgV ⟨k, n, s⟩ from ⟨hvn.1, hvn.2, (by show s.length ≤ _; omega)⟩)
  have HNN := hid (And.intro hvn hxn)
  clear z0 z1 hbW hzW ht hvk hvn hvs hxk hxn hxs
  go_enter Tryd.func6, Tryd.ntmps6
  go_wp2_with fail
  refine (small15_any W HT.out).mono ?_
  rintro e w1 ⟨rfl, hb1⟩
  have HB1 := hid hb1
  clear hb1
  have r1 := HR.out w1 HB1.out
  obtain ⟨rv, hrv⟩ : ∃ rv : Int, ((rightV ⟨k, n, s⟩ : Nat) : Int) = rv := ⟨_, rfl⟩
  obtain ⟨rx, hrx⟩ : ∃ rx : Int, ((rightV ⟨k1, n1, s1⟩ : Nat) : Int) = rx := ⟨_, rfl⟩
  have HRV1 := hid (HRV.out w1)
  rw [hrv] at HRV1
  clear HRV
  have HV0 := hid hrv
  have HX0 := hid hrx
  have HRX1 := hid (fun V => (show Calls Tryd.prog 20 #[.agg #[.int .i64 k1, .int .i64 n1, .string (str8 s1)]] V fun e w' => e = .returned (.int .i64 rx) ∧ Below V.heap.size V w' from by have := HRX.out V; rwa [hrx] at this))
  clear HRX hrv hrx
  by_cases e1 : rv = 0
  rotate_left
  · go_wp2_with fail
    refine HRV1.out.mono ?_
    rintro e w2 ⟨rfl, hb2⟩
    have HB2 := htr HB1 hb2
    clear hb2 r1
    go_wp2_with fail
    go_ret
    exact ⟨rfl, HB.out.trans (HB2.out.mono HB.out.size)⟩
  subst e1
  go_wp2_with fail
  refine HRV1.out.mono ?_
  rintro e w2 ⟨rfl, hb2⟩
  have HB2 := htr HB1 hb2
  clear hb2 r1 HB1 HRV1
  have r1 := HR.out w2 HB2.out
  have HRX2 := hid (HRX1.out w2)
  clear HRX1
  by_cases e2 : rx = 0
  rotate_left
  · go_wp2_with fail
    refine HRX2.out.mono ?_
    rintro e w3 ⟨rfl, hb3⟩
    have HB3 := htr HB2 hb3
    clear hb3 r1 HB2
    have HB2 := HB3
    go_wp2_with fail
    go_ret
    exact ⟨rfl, HB.out.trans (HB2.out.mono HB.out.size)⟩
  subst e2
  go_wp2_with fail
  refine HRX2.out.mono ?_
  rintro e w3 ⟨rfl, hb3⟩
  have HB3 := htr HB2 hb3
  clear hb3 r1 HB2 HRX2
  have HB2 := HB3
  clear HB3
  have r1 := HR.out w3 HB2.out
  by_cases e3 : k = 0
  · have e3b : (k == 0) = true := by simp [e3]
    clear e3
    have e3 : decide (k = 0) = true := by simpa using e3b
    go_wp2_with fail
    go_ret
    exact ⟨rfl, HB.out.trans (HB2.out.mono HB.out.size)⟩
  by_cases e4 : op < 3
  · skip
    go_wp2_with fail
    go_ret
    exact ⟨rfl, HB.out.trans (HB2.out.mono HB.out.size)⟩
  by_cases e5 : 8 < op
  · skip
    go_wp2_with fail
    go_ret
    exact ⟨rfl, HB.out.trans (HB2.out.mono HB.out.size)⟩
  by_cases e6 : op = 4
  · subst e6
    go_wp2_with fail
    go_ret
    exact ⟨rfl, HB.out.trans (HB2.out.mono HB.out.size)⟩
  go_wp2_with fail
  · go_ret
    exact ⟨rfl, HB.out.trans (HB2.out.mono HB.out.size)⟩
  clear r1
  go_cut [8] from 15 to 47 (fun ux wx => ∃ g b : Nat, ux = .pointer (some ⟨g, 0, none⟩) ∧ Hid (Px w3 g b op k n s wx))
  case first =>
    clear e3 e4 e5 e6
    have HSN := hid (fun (V : World) (hb : Below w3.heap.size w3 V) => (show (fun V : World => V.cell? ⟨w.heap.size, 0, none⟩ = some (.int .i64 k) ∧ V.cell? ⟨w.heap.size, 1, none⟩ = some (.int .i64 n) ∧ V.cell? ⟨w.heap.size, 2, none⟩ = some (.string (str8 s))) V from by
      have r := (HR.out V (HB2.out.trans (hb.mono HB2.out.size))).1
      exact ⟨r.1, r.2.1, r.2.2.1⟩))
    have hd : Below w3.heap.size w3 w3.drew := (Below.refl _ w3).drew
    have hS0 := HSN.out _ hd
    refine last_region (fun V : World => V.cell? ⟨w.heap.size, 0, none⟩ = some (.int .i64 k) ∧ V.cell? ⟨w.heap.size, 1, none⟩ = some (.int .i64 n) ∧ V.cell? ⟨w.heap.size, 2, none⟩ = some (.string (str8 s))) 8 (by kernel_rfl) ?_
    refine tkE (i := 0) rfl (by assumption) ?_
    refine tkE (i := 3) rfl (by assumption) ?_
    refine tkE (i := 4) rfl (by assumption) ?_
    refine takeE_twoC (i := 1) (j := 7) (by kernel_rfl) rfl rfl rfl rfl ?_ ?_
    · refine wp_callC #[.int .i64 3] (fun u w' => u = .agg #[.int .i64 1, .int .i64 3, .string (str8 [])] ∧ Below w3.drew.heap.size w3.drew w') rfl (by kernel_rfl) (enters_of Tryd.func21 (by kernel_rfl) rfl) ((lawNum_any 3 w3.drew).mono fun e w' ⟨h1, h2⟩ => ⟨_, h1, rfl, h2⟩) ?_
      rintro u1 V1 ⟨rfl, hb1⟩
      have HV1 := hid (hd.trans (hb1.mono hd.size))
      have hS1 := HSN.out _ HV1.out
      refine ⟨.inl hS1, ?_⟩
      simp only [Act.put, List.getElem_toArray, List.getElem_cons_zero, List.getElem_cons_succ, List.setIfInBounds_toArray, List.set_cons_zero, List.set_cons_succ]
      refine tkE (i := 2) rfl (by assumption) ?_
      refine takeE_twoC (i := 5) (j := 7) (by kernel_rfl) rfl rfl rfl rfl ?_ ?_
      · refine wp_valueC (exec_bs2 rfl (by rfl) (by rfl) _) ?_
        obtain ⟨A, hA, hbA, hzA, hcA⟩ := box8 V1 (.cells #[.int .i64 2, .int .i64 0, .string ⟨#[]⟩, .string ⟨#[]⟩, .int .i64 1, .int .i64 3, .string (str8 []), .slice none 0 0, .int .i64 1, .int .i64 0, .string ⟨#[]⟩, .string ⟨#[]⟩, .int .i64 k, .int .i64 n, .string (str8 s), .slice none 0 0] 26)
        rw [hA]
        clear hA
        have HBA := htr HV1 hbA
        have hSA := HSN.out _ HBA.out
        refine ⟨.inl hSA, ?_⟩
        simp only [Act.put, List.getElem_toArray, List.getElem_cons_zero, List.getElem_cons_succ, List.setIfInBounds_toArray, List.set_cons_zero, List.set_cons_succ]
        refine tkE (i := 6) rfl (by assumption) ?_
        refine takeE_one (i := 7) (by kernel_rfl) rfl rfl (wp_valueC (exec_alX _ _ rfl _) ?_)
        obtain ⟨X, hX, hbX, hzX, hcX⟩ := box8 A (.cells noEC 26)
        rw [hX]
        clear hX
        have HBX := htr HBA hbX
        have hSX := HSN.out _ HBX.out
        refine ⟨.inl hSX, ?_⟩
        simp only [Act.put, List.getElem_toArray, List.getElem_cons_zero, List.getElem_cons_succ, List.setIfInBounds_toArray, List.set_cons_zero, List.set_cons_succ]
        have hpx := hid (px_done (op := op) HBX.out (show w3.heap.size ≤ A.heap.size from HBA.out.size) (show V1.heap.size ≠ A.heap.size from (by omega)) hcX ((hbX.block _ hzA).trans hcA))
        refine takeE_storerowC (i := 8) (by kernel_rfl) rfl rfl 26 (.tmp 8) (.tmp 47) rfl (A.heap.size) #[.int .i64 3, .int .i64 op, .string ⟨#[]⟩, .string ⟨#[]⟩, .int .i64 0, .int .i64 0, .string ⟨#[]⟩, .slice (some ⟨V1.heap.size, 0, none⟩) 2 2] (by rfl) (by rfl) 26 _ hcX Tryd.infoExpr8 rfl (by simp [Value.oneCell']) (.inr rfl) ?_
        refine wpAnyE_done (by kernel_rfl) ?_ _
        show Only _ .normal _ _
        unfold Only
        go_wp2_with fail
        go_meet
        exact ⟨_, _, rfl, hpx⟩
      · refine wp_valueC (exec_alX _ _ rfl _) ?_
        obtain ⟨X, hX, hbX, hzX, hcX⟩ := box8 V1 (.cells noEC 26)
        rw [hX]
        clear hX
        have HBX := htr HV1 hbX
        have hSX := HSN.out _ HBX.out
        refine ⟨.inl hSX, ?_⟩
        simp only [Act.put, List.getElem_toArray, List.getElem_cons_zero, List.getElem_cons_succ, List.setIfInBounds_toArray, List.set_cons_zero, List.set_cons_succ]
        refine takeE_one (i := 5) (by kernel_rfl) rfl rfl (wp_valueC (exec_bs2 rfl (by rfl) (by rfl) _) ?_)
        obtain ⟨A, hA, hbA, hzA, hcA⟩ := box8 X (.cells #[.int .i64 2, .int .i64 0, .string ⟨#[]⟩, .string ⟨#[]⟩, .int .i64 1, .int .i64 3, .string (str8 []), .slice none 0 0, .int .i64 1, .int .i64 0, .string ⟨#[]⟩, .string ⟨#[]⟩, .int .i64 k, .int .i64 n, .string (str8 s), .slice none 0 0] 26)
        rw [hA]
        clear hA
        have HBA := htr HBX hbA
        have hSA := HSN.out _ HBA.out
        refine ⟨.inl hSA, ?_⟩
        simp only [Act.put, List.getElem_toArray, List.getElem_cons_zero, List.getElem_cons_succ, List.setIfInBounds_toArray, List.set_cons_zero, List.set_cons_succ]
        refine tkE (i := 6) rfl (by assumption) ?_
        have hpx := hid (px_done (op := op) HBA.out (show w3.heap.size ≤ V1.heap.size from HV1.out.size) (show X.heap.size ≠ V1.heap.size from (by omega)) ((hbA.block _ hzX).trans hcX) hcA)
        refine takeE_storerowC (i := 8) (by kernel_rfl) rfl rfl 26 (.tmp 8) (.tmp 47) rfl (V1.heap.size) #[.int .i64 3, .int .i64 op, .string ⟨#[]⟩, .string ⟨#[]⟩, .int .i64 0, .int .i64 0, .string ⟨#[]⟩, .slice (some ⟨X.heap.size, 0, none⟩) 2 2] (by rfl) (by rfl) 26 _ ((hbA.block _ hzX).trans hcX) Tryd.infoExpr8 rfl (by simp [Value.oneCell']) (.inr rfl) ?_
        refine wpAnyE_done (by kernel_rfl) ?_ _
        show Only _ .normal _ _
        unfold Only
        go_wp2_with fail
        go_meet
        exact ⟨_, _, rfl, hpx⟩
    · refine wp_valueC (exec_alX _ _ rfl _) ?_
      obtain ⟨X, hX, hbX, hzX, hcX⟩ := box8 w3.drew (.cells noEC 26)
      rw [hX]
      clear hX
      have HBX := hid (hd.trans (hbX.mono hd.size))
      have hSX := HSN.out _ HBX.out
      refine ⟨.inl hSX, ?_⟩
      simp only [Act.put, List.getElem_toArray, List.getElem_cons_zero, List.getElem_cons_succ, List.setIfInBounds_toArray, List.set_cons_zero, List.set_cons_succ]
      refine takeE_callw (i := 1) #[.int .i64 3] (fun u w' => u = .agg #[.int .i64 1, .int .i64 3, .string (str8 [])] ∧ Below X.heap.size X w') (by kernel_rfl) rfl (by rfl) rfl (by kernel_rfl) (enters_of Tryd.func21 (by kernel_rfl) rfl) ((lawNum_any 3 X).mono fun e w' ⟨h1, h2⟩ => ⟨_, h1, rfl, h2⟩) ?_
      rintro u1 V1 ⟨rfl, hb1⟩
      have HV1 := htr HBX hb1
      have hS1 := HSN.out _ HV1.out
      refine ⟨hS1, ?_⟩
      simp only [Act.put, List.getElem_toArray, List.getElem_cons_zero, List.getElem_cons_succ, List.setIfInBounds_toArray, List.set_cons_zero, List.set_cons_succ]
      refine tkE (i := 2) rfl (by assumption) ?_
      refine takeE_one (i := 5) (by kernel_rfl) rfl rfl (wp_valueC (exec_bs2 rfl (by rfl) (by rfl) _) ?_)
      obtain ⟨A, hA, hbA, hzA, hcA⟩ := box8 V1 (.cells #[.int .i64 2, .int .i64 0, .string ⟨#[]⟩, .string ⟨#[]⟩, .int .i64 1, .int .i64 3, .string (str8 []), .slice none 0 0, .int .i64 1, .int .i64 0, .string ⟨#[]⟩, .string ⟨#[]⟩, .int .i64 k, .int .i64 n, .string (str8 s), .slice none 0 0] 26)
      rw [hA]
      clear hA
      have HBA := htr HV1 hbA
      have hSA := HSN.out _ HBA.out
      refine ⟨.inl hSA, ?_⟩
      simp only [Act.put, List.getElem_toArray, List.getElem_cons_zero, List.getElem_cons_succ, List.setIfInBounds_toArray, List.set_cons_zero, List.set_cons_succ]
      refine tkE (i := 6) rfl (by assumption) ?_
      have hpx := hid (px_done (op := op) HBA.out (show w3.heap.size ≤ w3.drew.heap.size from hd.size) (show V1.heap.size ≠ w3.drew.heap.size from (by have := hb1.size; omega)) ((hbA.block _ (Nat.lt_of_lt_of_le hzX hb1.size)).trans ((hb1.block _ hzX).trans hcX)) hcA)
      refine takeE_storerowC (i := 8) (by kernel_rfl) rfl rfl 26 (.tmp 8) (.tmp 47) rfl (w3.drew.heap.size) #[.int .i64 3, .int .i64 op, .string ⟨#[]⟩, .string ⟨#[]⟩, .int .i64 0, .int .i64 0, .string ⟨#[]⟩, .slice (some ⟨V1.heap.size, 0, none⟩) 2 2] (by rfl) (by rfl) 26 _ ((hbA.block _ (Nat.lt_of_lt_of_le hzX hb1.size)).trans ((hb1.block _ hzX).trans hcX)) Tryd.infoExpr8 rfl (by simp [Value.oneCell']) (.inr rfl) ?_
      refine wpAnyE_done (by kernel_rfl) ?_ _
      show Only _ .normal _ _
      unfold Only
      go_wp2_with fail
      go_meet
      exact ⟨_, _, rfl, hpx⟩
  obtain ⟨g, b, rfl, HX⟩ := hcut
  rename World => w4
  have ho : op = 3 ∨ op = 5 ∨ op = 6 ∨ op = 7 ∨ op = 8 := by omega
  have HB4 := hid (HB2.out.trans (HX.out.1.mono HB2.out.size))
  have HO := hid ho
  have hv0 : rightV ⟨k, n, s⟩ = 0 := by have := HV0.out; omega
  have hx0 : rightV ⟨k1, n1, s1⟩ = 0 := by have := HX0.out; omega
  have hth := test_has op ⟨k, n, s⟩ ⟨k1, n1, s1⟩ hv0 hx0 HNN.out.1 HNN.out.2 e3 ho
  have HKW := HKX.out w4
  rw [show keyOfV ⟨k1, n1, s1⟩ = keyV ⟨k1, n1, s1⟩ from if_pos hx0, HX0.out] at HKW
  have HKW := hid HKW
  have HSP := hid (fun (V : World) (hb : Below w4.heap.size w4 V) => (show Calls Tryd.prog 9 #[.agg #[.int .i64 3, .int .i64 op, .string ⟨#[]⟩, .string ⟨#[]⟩, .int .i64 0, .int .i64 0, .string ⟨#[]⟩, .slice (some ⟨b, 0, none⟩) 2 2], .int .i64 3] V (SpP V (testP op ⟨k, n, s⟩)) from by
    have h := pspan_any 3 2 (fun b => b < V.heap.size) (pointX op 3 ⟨k, n, s⟩) _ V (HT.out.below (HB4.out.trans (hb.mono HB4.out.size)) HT.out.lt) (rg_point _ _ _ (by decide) HVR.out) (exv_point op 3 ⟨k, n, s⟩ V _ b (Nat.lt_of_lt_of_le (block_lt HX.out.2.2) hb.size) ((hb.block b (block_lt HX.out.2.2)).trans HX.out.2.2)) (few_point _ _ _)
    rwa [span_point _ _ _ _ ho hv0] at h))
  have HRR := hid (fun (V : World) (hb : Below w4.heap.size w4 V) => And.intro (HR.out V (HB4.out.trans (hb.mono HB4.out.size))) (cells8 ((hb.block g (block_lt HX.out.2.1)).trans HX.out.2.1)))
  have HE := hid (HB.out.trans (HB4.out.mono HB.out.size))
  generalize testP op ⟨k, n, s⟩ = sp at HSP hth
  generalize cmpV ⟨k1, n1, s1⟩ ⟨k, n, s⟩ = c at HCM hth
  generalize keyV ⟨k1, n1, s1⟩ = K at HKW hth
  have HTH := hid hth
  have r1 := HRR.out w4 (Below.refl _ _)
  clear hv0 hx0 ho hth HX HKX HVR HNN HV0 HX0 HB2 HT HR HB HB4 e3 e4 e5 e6
  go_wp2_with fail
  refine HKW.out.mono ?_
  rintro e w5 ⟨kv, rfl, hk5, hb5⟩
  have HK5 := hid (Copy.says (B := w4.heap.size) (show Copy w4.heap.size w5 kv K from hk5))
  obtain ⟨ka, kc, rfl⟩ := Copy.form (show Copy w4.heap.size w5 kv K from hk5)
  have HB5 := hid hb5
  clear hk5 hb5 r1 HKW
  have r1 := HRR.out w5 HB5.out
  go_wp2_with fail
  refine (HSP.out w5 HB5.out).mono ?_
  rintro e w6 ⟨fv, tv, rfl, hf6, ht6, _, hb6⟩
  obtain ⟨fa, fc, rfl⟩ := hf6.form
  obtain ⟨ta, tc, rfl⟩ := ht6.form
  have HB6 := htr HB5 hb6
  have HIN := hid (xin_any (.slice fa sp.a.length fc) (.slice ta sp.b.length tc) (.slice ka K.length kc) sp.en sp.a sp.b K w6 hf6.says ht6.says (HK5.out.new hb6))
  clear hf6 ht6 hb6 r1 HSP
  obtain ⟨bi, hbi⟩ : ∃ bi, inSp sp.a sp.b sp.en K = bi := ⟨_, rfl⟩
  rw [hbi] at HIN
  have HBI := hid (hbi.symm.trans (show inSp sp.a sp.b sp.en K = _ from HTH.out))
  clear hbi HTH
  go_wp2_with fail
  refine HIN.out.mono ?_
  rintro e w7 ⟨rfl, hb7⟩
  have HB7 := htr HB6 hb7
  clear hb7 HIN HK5
  have r1 := HRR.out w7 HB7.out
  go_wp2_with fail
  refine (HCM.out w7).mono ?_
  rintro e w8 ⟨rfl, hb8⟩
  have HB8 := htr HB7 hb8
  clear hb8 HCM r1 HRR
  have hbi := HBI.out
  have ho := HO.out
  clear HBI HO
  rcases ho with rfl | rfl | rfl | rfl | rfl
  all_goals
    have hbi := hid hbi
    go_wp2_with fail
    go_ret
    have hbi := hbi.out
    exact ⟨by simp [hbi] <;> rfl, HE.out.trans (HB8.out.mono HE.out.size)⟩

theorem planPoints_w (op : Int) (v x : Vl) (w : World) (o1 : -9223372036854775808 ≤ op) (o2 : op ≤ 9223372036854775807) (hv : OkV v) (hx : OkV x) (ht : TstAt w) :
    Calls Tryd.prog 6 #[.int .i64 op, .agg #[.int .i64 v.k, .int .i64 v.n, .string (str8 v.s)], .agg #[.int .i64 x.k, .int .i64 x.n, .string (str8 x.s)]] w fun e w' => e = .returned (.bool true) ∧ Below w.heap.size w w' :=
  planPoints_law op v x w ht hv hx o1 o2
end Go.Proofs.YthjgbcbgkafgjaaDoor
