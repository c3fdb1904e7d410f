/- The walk of TriePaths. -/
import Derived.Test.YthkeofinamedfaaDoorPathsP
import Derived.Test.YthkeofinamedfaaDoorForksP
namespace Go.Proofs.YthkeofinamedfaaDoor
open Go.RowKit
set_option linter.unusedVariables false
set_option linter.unusedSimpArgs false
set_option maxRecDepth 20000

set_option maxHeartbeats 8000000 in
theorem paths_any (v kv : Value) (xs : List ActV) (key : List UInt8) (w : World) (hA : Acts w.heap.size w v xs) (hk : Says w kv key) (ht : Tables w) :
    Calls Tryd.prog 6 #[v, kv] w fun e w' => e = .returned (.bool true) ∧ Below w.heap.size w w' := by
  obtain ⟨aA, cA, rfl, _⟩ := id hA
  obtain ⟨a, c, rfl, _⟩ := id hk
  have hlt := ht.lt
  have HA := hid hA
  have HK := hid hk
  have HT := hid ht
  clear hA hk ht
  go_enter Tryd.func6, Tryd.ntmps6
  go_wp2_with fail
  refine (small_any w HT.out).mono ?_
  rintro e w1 ⟨rfl, hb1⟩
  go_wp2_with fail
  refine (made_any _ xs w1 ((HA.out.below hb1).mono hb1.size)).mono ?_
  rintro e w2 ⟨tb, T, rfl, R2, hc2, hb2⟩
  have B2 := hb1.trans (hb2.mono hb1.size)
  have R2 := R2.lower hb1.size
  clear hb1 hb2
  go_wp2_with fail
  refine (path_B w.heap.size tb T _ key w2 R2 (HK.out.new B2) (HT.out.below B2 (by omega)) (by omega)).mono ?_
  rintro e w3 ⟨ek, ev, sv, rfl, hk3, hv3, hs3, _, hb3⟩
  generalize hkn : ((T.map (·.near key)).map (·.1)).getD [] = kn at *
  generalize hvn : ((T.map (·.near key)).map (·.2)).getD [] = vn at *
  generalize hbN : T.isNone = bN at *
  obtain ⟨n, hn⟩ : ∃ n, (stepsO T key).length = n := ⟨_, rfl⟩
  rw [hn] at hs3
  have B3 := B2.trans (hb3.mono B2.size)
  have R3 := R2.new hb3
  obtain ⟨a5, c5, rfl⟩ := hk3.form
  obtain ⟨a6, c6, rfl⟩ := hv3.form
  obtain ⟨a7, n7, c7, rfl, h7⟩ : ∃ a m c, sv = .slice a m c ∧ m = n := by
    rcases hs3.2 with ⟨rfl, h0⟩ | ⟨g, cap, cur, rfl, _⟩
    · exact ⟨none, 0, 0, rfl, h0.symm⟩
    · exact ⟨_, _, _, rfl, rfl⟩
  subst h7
  obtain ⟨w4, hw4⟩ : ∃ w4, w3.alloc (.cells #[.bool bN, .slice a5 kn.length c5, .slice a6 vn.length c6, .slice a7 n7 c7] 59) = w4 := ⟨_, rfl⟩
  have hb4 : Below w3.heap.size w3 w4 := by rw [← hw4]; exact new_alloc _ _
  have hn4 := World.alloc_heap_new w3 (.cells #[.bool bN, .slice a5 kn.length c5, .slice a6 vn.length c6, .slice a7 n7 c7] 59)
  rw [hw4] at hn4
  have B4 := B3.trans (hb4.mono B3.size)
  have R4 := R3.new hb4
  have HG := get_B w.heap.size tb T _ key w4 R4 (HK.out.new B4)
  have HS4 := hid ((Spares.of_new (S := fun _ => False) hb4).row hs3 (fun _ _ => id))
  have HK4 := hid (hk3.new hb4)
  have HV4 := hid (hv3.new hb4)
  have HP4 := hid hn4
  have HR4 := hid R4
  have HB4 := hid B4
  clear hk3 hv3 hs3 hb3 B2 B3 R2 R3 hb4 hn4 B4 R4
  go_wp2_with fail
  clear hw4
  generalize w3.heap.size = P at *
  refine HG.mono ?_
  clear HG
  rintro e w5 ⟨v', rfl, hc5, hb5⟩
  obtain ⟨a8, c8, rfl⟩ := hc5.form
  obtain ⟨L1, L2, L3, L4⟩ := path_law T key
  have hfew := steps_few T key
  have HST : Hid (0 < n7 → _) := hid (steps_cells hn HR4.out.wf HS4.out)
  rw [hkn] at L2 HST
  rw [hvn] at L3
  rw [hbN] at L1 L2 L4
  rw [hn] at L4 hfew
  generalize plc T key = pl at *
  generalize sid T key = sd at *
  have HF : Hid (∀ W, Below w5.heap.size w5 W → W.cell? ⟨P, 0, none⟩ = some (.bool bN) ∧ W.cell? ⟨P, 1, none⟩ = some (.slice a5 kn.length c5) ∧ W.cell? ⟨P, 2, none⟩ = some (.slice a6 vn.length c6) ∧ W.cell? ⟨P, 3, none⟩ = some (.slice a7 n7 c7) ∧ Says W (.slice a key.length c) key ∧ Says W (.slice a5 kn.length c5) kn ∧ Says W (.slice a6 vn.length c6) vn ∧ Says W (.slice a8 ((look T key).getD []).length c8) ((look T key).getD []) ∧ TreeB w.heap.size W tb T ∧ Below w.heap.size w W ∧ Below w4.heap.size w4 W) := hid fun W hW => by
    have h4 : Below w4.heap.size w4 W := hb5.trans (hW.mono hb5.size)
    have hr := (h4.block _ (block_lt HP4.out)).trans HP4.out
    have hw : Below w.heap.size w W := HB4.out.trans (h4.mono HB4.out.size)
    refine ⟨?_, ?_, ?_, ?_, HK.out.new hw, (Copy.says HK4.out).new h4, (Copy.says HV4.out).new h4, (Copy.says hc5).new hW, HR4.out.new h4, hw, h4⟩
    · rw [cell_of_row _ _ _ _ _ _ hr]; rfl
    · rw [cell_of_row _ _ _ _ _ _ hr]; rfl
    · rw [cell_of_row _ _ _ _ _ _ hr]; rfl
    · rw [cell_of_row _ _ _ _ _ _ hr]; rfl
  generalize (look T key).getD [] = gv at *
  generalize (look T key).isSome = is at *
  have HCN := fun nq => count_B w.heap.size tb T (w5.drewN nq) (HF.out _ (below_drewN _ w5 nq)).2.2.2.2.2.2.2.2.1
  generalize hcn : (Tri.entsO T).length = cn at *
  obtain ⟨p0, p1, p2, p3, _⟩ := HF.out w5 (Below.refl _ _)
  have HL2 := hid L2
  have HL3 := hid L3
  have HL4 := hid L4
  clear hc5 HS4 HK4 HV4 HP4 HR4 HB4 hb5 L2 L3 L4 hkn hvn hbN hn
  cases bN with
  | true =>
    have e1 := HL2.out
    have e2 := HL4.out rfl
    simp at e1
    subst e1 e2
    go_wp2_with fail
    go_quiet ((go_at_call 12; exact Calls.quiet_of_same (HCN _)))
    have hb6 : Below w5.heap.size w5 (w5.drewN nq) := below_drewN _ _ _
    obtain ⟨r0, r1, r2, r3, sK, sN, sV, sG, R6, bW6, b46⟩ := HF.out _ hb6
    have HB6 := hid hb6
    clear p0 p1 p2 p3 HCN hb6
    generalize w5.drewN nq = w6 at *
    have m1 := run_string_shows (P := Tryd.prog) 28 5 9 Tryd.underlying28 Tryd.underlying5 Tryd.underlying9 sN
    have m2 := run_string_shows (P := Tryd.prog) 28 5 9 Tryd.underlying28 Tryd.underlying5 Tryd.underlying9 sK
    have m3 := run_string_shows (P := Tryd.prog) 28 5 9 Tryd.underlying28 Tryd.underlying5 Tryd.underlying9 sV
    have m4 := run_string_shows (P := Tryd.prog) 28 5 9 Tryd.underlying28 Tryd.underlying5 Tryd.underlying9 sG
    clear sK sN sV sG R6 bW6 b46
    go_wp2_with fail
    go_loopw [10] (fun i wr => ∃ k : Nat, k ≤ 0 ∧ i = .int .i64 k ∧ Hid (∃ m, wr = w6.drewN m)) (fun i _ => 0 - (intOf i).toNat)
    case atStart => exact ⟨0, Nat.zero_le _, rfl, ⟨0, rfl⟩⟩
    case round =>
      obtain ⟨k, hk, rfl, HM⟩ := hrel
      have HM2 : Hid (∀ j, ∃ m, wr.drewN j = w6.drewN m) := hid (fun j => by obtain ⟨m, hm⟩ := HM.out; exact ⟨m + j, by rw [hm, World.drewN_drewN]⟩)
      have HBR : Hid (∀ nq, Below w5.heap.size w5 (wr.drewN nq)) := hid fun nq => by
        obtain ⟨m, hm⟩ := HM.out
        rw [hm]
        exact (HB6.out.trans ((below_drewN w5.heap.size w6 m))).trans (below_drewN _ _ nq)
      have hbr : Below w5.heap.size w5 wr := by obtain ⟨m, hm⟩ := HM.out; rw [hm]; exact HB6.out.trans (below_drewN w5.heap.size w6 m)
      obtain ⟨r0, r1, r2, r3, sK, sN, _, _, R6, bW6, b46⟩ := HF.out _ hbr
      have HCN := fun nq => count_B w.heap.size tb T (wr.drewN nq) (HF.out _ (HBR.out nq)).2.2.2.2.2.2.2.2.1
      have HW := hid (fun nq => (HF.out _ (HBR.out nq)).2.2.2.2.2.2.2.2.2.1)
      rw [hcn] at HCN
      clear bW6 R6
      have hki : (0 : Int) ≤ (k : Int) := by omega
      go_wp2_with fail
      go_quiet ((go_at_call 12; exact Calls.quiet_of_same (HCN _)))
      go_wp2
      all_goals
        go_ret
        refine ⟨?_, HW.out nq⟩
        first
          | rfl
          | (refine congrArg (fun b => Ending.returned (.bool b)) ?_; simp only [decide_eq_true_eq]; omega)
          | (refine congrArg (fun b => Ending.returned (.bool b)) ?_; simp only [decide_eq_true_eq]; split <;> omega)
  | false =>
    have e1 := HL2.out
    simp only [Bool.not_false, Bool.true_and] at e1
    have hz : ((cn : Int) == 0) = false := L1
    have hcn0 : ¬ ((cn : Int) = 0) := by simpa using L1
    have hcn1 : 1 ≤ cn := by omega
    by_cases hkk : kn = key
    · rw [decide_eq_true hkk] at e1
      subst e1
      have hvg := HL3.out rfl
      go_wp2_with fail
      go_quiet ((go_at_call 12; exact Calls.quiet_of_same (HCN _)))
      have hb6 : Below w5.heap.size w5 (w5.drewN nq) := below_drewN _ _ _
      obtain ⟨r0, r1, r2, r3, sK, sN, sV, sG, R6, bW6, b46⟩ := HF.out _ hb6
      have HB6 := hid hb6
      clear p0 p1 p2 p3 HCN hb6
      generalize w5.drewN nq = w6 at *
      have m1 := run_string_shows (P := Tryd.prog) 28 5 9 Tryd.underlying28 Tryd.underlying5 Tryd.underlying9 sN
      have m2 := run_string_shows (P := Tryd.prog) 28 5 9 Tryd.underlying28 Tryd.underlying5 Tryd.underlying9 sK
      have m3 := run_string_shows (P := Tryd.prog) 28 5 9 Tryd.underlying28 Tryd.underlying5 Tryd.underlying9 sV
      have m4 := run_string_shows (P := Tryd.prog) 28 5 9 Tryd.underlying28 Tryd.underlying5 Tryd.underlying9 sG
      clear sK sN sV sG R6 bW6 b46
      rw [show str8 kn = str8 key by rw [hkk]] at m1
      rw [show str8 vn = str8 gv by rw [hvg]] at m3
      clear hkk hvg
      go_wp2_with fail
      go_loopw [10] (fun i wr => ∃ k : Nat, k ≤ n7 ∧ i = .int .i64 k ∧ Hid (∃ m, wr = w6.drewN m)) (fun i _ => n7 - (intOf i).toNat)
      case atStart => exact ⟨0, Nat.zero_le _, rfl, ⟨0, rfl⟩⟩
      case round =>
        obtain ⟨k, hk, rfl, HM⟩ := hrel
        have HM2 : Hid (∀ j, ∃ m, wr.drewN j = w6.drewN m) := hid (fun j => by obtain ⟨m, hm⟩ := HM.out; exact ⟨m + j, by rw [hm, World.drewN_drewN]⟩)
        have HBR : Hid (∀ nq, Below w5.heap.size w5 (wr.drewN nq)) := hid fun nq => by
          obtain ⟨m, hm⟩ := HM.out
          rw [hm]
          exact (HB6.out.trans ((below_drewN w5.heap.size w6 m))).trans (below_drewN _ _ nq)
        have hbr : Below w5.heap.size w5 wr := by obtain ⟨m, hm⟩ := HM.out; rw [hm]; exact HB6.out.trans (below_drewN w5.heap.size w6 m)
        obtain ⟨r0, r1, r2, r3, sK, sN, _, _, R6, bW6, b46⟩ := HF.out _ hbr
        have HCN := fun nq => count_B w.heap.size tb T (wr.drewN nq) (HF.out _ (HBR.out nq)).2.2.2.2.2.2.2.2.1
        have HW := hid (fun nq => (HF.out _ (HBR.out nq)).2.2.2.2.2.2.2.2.2.1)
        rw [hcn] at HCN
        clear bW6 R6
        by_cases hlt' : k < n7
        · obtain ⟨g, hg, hgl, hst⟩ := HST.out (by omega)
          subst hg
          obtain ⟨x0, x1, x2, x3, x4, x5⟩ := hst k hlt'
          have z0 : wr.cell? ⟨g, k * 34, none⟩ = some (.int .i64 (pl k)) := (b46.cell (p := ⟨g, k * 34, none⟩) hgl).trans x0
          have z1 : wr.cell? ⟨g, k * 34 + 1, none⟩ = some (.bool (sd k)) := (b46.cell (p := ⟨g, k * 34 + 1, none⟩) hgl).trans x1
          have t1 : Bv wr (pl k) (.slice a key.length c) (sd k) := ⟨_, sK, x2.symm⟩
          have t2 : Bv wr (pl k) (.slice a5 kn.length c5) (sd k) := ⟨_, sN, x3⟩
          have hp9 : pl k < 1081 := by omega
          have hki : (k : Int) < (n7 : Int) := by omega
          have hk0 : (0 : Int) ≤ (k : Int) := by omega
          have HX := hid hlt'
          rcases Nat.eq_zero_or_pos k with hk00 | hk00
          · subst hk00
            clear hst x0 x1 x2 x3 x4 x5 sK sN HST
            generalize pl 0 = pk at *
            generalize sd 0 = sk at *
            go_wp2_with fail
            go_quiet ((go_at_call 20; exact Calls.quiet_of_same (bv_any (by assumption) hp9 _)))
            go_wp2
            go_roundw
            case rel => exact ⟨0 + 1, HX.out, by go_num, HM2.out nq⟩
            case measure => have := HX.out; simp [intOf]; omega
          · obtain ⟨j, hj⟩ : ∃ j, j + 1 = k := ⟨k - 1, by omega⟩
            rw [← hj] at hlt'
            obtain ⟨y0', _, _, _, _, y5⟩ := hst j (by omega)
            have y0 : wr.cell? ⟨g, j * 34, none⟩ = some (.int .i64 (pl j)) := (b46.cell (p := ⟨g, j * 34, none⟩) hgl).trans y0'
            have hup := y5 hlt'
            rw [hj] at hup
            have hle : ¬ ((pl k : Int) ≤ (pl j : Int)) := by omega
            have hle2 : decide ((pl k : Int) ≤ (pl j : Int)) = false := by simp; omega
            have hle3 : (pl j : Int) < (pl k : Int) := by omega
            have hleN : ¬ (pl k ≤ pl j) := by omega
            have hleN2 : decide (pl k ≤ pl j) = false := by simp; omega
            have hleN3 : pl j < pl k := by omega
            have hsub : (k : Int) - 1 = (j : Int) := by omega
            have hgt : (0 : Int) < (k : Int) := by omega
            have hgt2 : decide ((0 : Int) < (k : Int)) = true := by simpa using hgt
            have hj0 : (0 : Int) ≤ (j : Int) := by omega
            have hjn : (j : Int) < (n7 : Int) := by omega
            clear hst x0 x1 x2 x3 x4 x5 sK sN HST y0' y5 hup
            have HJ := hid hj
            clear hj hlt'
            generalize pl k = pk at *
            generalize sd k = sk at *
            generalize pl j = pj at *
            go_wp2_with fail
            go_quiet ((go_at_call 20; exact Calls.quiet_of_same (bv_any (by assumption) hp9 _)))
            go_wp2
            go_roundw
            case rel => exact ⟨k + 1, HX.out, by go_num, HM2.out nq⟩
            case measure => have := HX.out; simp [intOf]; omega
        · have hki : (n7 : Int) ≤ (k : Int) := by omega
          go_wp2_with fail
          go_quiet ((go_at_call 12; exact Calls.quiet_of_same (HCN _)))
          go_wp2
          all_goals
            go_ret
            refine ⟨?_, HW.out nq⟩
            first
              | rfl
              | (refine congrArg (fun b => Ending.returned (.bool b)) ?_; simp only [decide_eq_true_eq]; omega)
              | (refine congrArg (fun b => Ending.returned (.bool b)) ?_; simp only [decide_eq_true_eq]; split <;> omega)
    · rw [decide_eq_false hkk] at e1
      subst e1
      go_wp2_with fail
      go_quiet ((go_at_call 12; exact Calls.quiet_of_same (HCN _)))
      have hb6 : Below w5.heap.size w5 (w5.drewN nq) := below_drewN _ _ _
      obtain ⟨r0, r1, r2, r3, sK, sN, sV, sG, R6, bW6, b46⟩ := HF.out _ hb6
      have HB6 := hid hb6
      clear p0 p1 p2 p3 HCN hb6
      generalize w5.drewN nq = w6 at *
      have m1 := run_string_shows (P := Tryd.prog) 28 5 9 Tryd.underlying28 Tryd.underlying5 Tryd.underlying9 sN
      have m2 := run_string_shows (P := Tryd.prog) 28 5 9 Tryd.underlying28 Tryd.underlying5 Tryd.underlying9 sK
      have m3 := run_string_shows (P := Tryd.prog) 28 5 9 Tryd.underlying28 Tryd.underlying5 Tryd.underlying9 sV
      have m4 := run_string_shows (P := Tryd.prog) 28 5 9 Tryd.underlying28 Tryd.underlying5 Tryd.underlying9 sG
      clear sK sN sV sG R6 bW6 b46
      have hne : ¬ (str8 kn).toList = (str8 key).toList := by rw [str8_toList, str8_toList]; exact hkk
      have HKK := hid hkk
      clear hkk
      generalize str8 kn = S1 at *
      generalize str8 key = S2 at *
      have hne1 : (S1.toList == S2.toList) = false := by simpa using hne
      have hne2 : decide (S1.toList = S2.toList) = false := by simpa using hne
      go_wp2_with fail
      go_loopw [10] (fun i wr => ∃ k : Nat, k ≤ n7 ∧ i = .int .i64 k ∧ Hid (∃ m, wr = w6.drewN m)) (fun i _ => n7 - (intOf i).toNat)
      case atStart => exact ⟨0, Nat.zero_le _, rfl, ⟨0, rfl⟩⟩
      case round =>
        obtain ⟨k, hk, rfl, HM⟩ := hrel
        have HM2 : Hid (∀ j, ∃ m, wr.drewN j = w6.drewN m) := hid (fun j => by obtain ⟨m, hm⟩ := HM.out; exact ⟨m + j, by rw [hm, World.drewN_drewN]⟩)
        have HBR : Hid (∀ nq, Below w5.heap.size w5 (wr.drewN nq)) := hid fun nq => by
          obtain ⟨m, hm⟩ := HM.out
          rw [hm]
          exact (HB6.out.trans ((below_drewN w5.heap.size w6 m))).trans (below_drewN _ _ nq)
        have hbr : Below w5.heap.size w5 wr := by obtain ⟨m, hm⟩ := HM.out; rw [hm]; exact HB6.out.trans (below_drewN w5.heap.size w6 m)
        obtain ⟨r0, r1, r2, r3, sK, sN, _, _, R6, bW6, b46⟩ := HF.out _ hbr
        have HCN := fun nq => count_B w.heap.size tb T (wr.drewN nq) (HF.out _ (HBR.out nq)).2.2.2.2.2.2.2.2.1
        have HW := hid (fun nq => (HF.out _ (HBR.out nq)).2.2.2.2.2.2.2.2.2.1)
        rw [hcn] at HCN
        clear bW6 R6
        by_cases hlt' : k < n7
        · obtain ⟨g, hg, hgl, hst⟩ := HST.out (by omega)
          subst hg
          obtain ⟨x0, x1, x2, x3, x4, x5⟩ := hst k hlt'
          have z0 : wr.cell? ⟨g, k * 34, none⟩ = some (.int .i64 (pl k)) := (b46.cell (p := ⟨g, k * 34, none⟩) hgl).trans x0
          have z1 : wr.cell? ⟨g, k * 34 + 1, none⟩ = some (.bool (sd k)) := (b46.cell (p := ⟨g, k * 34 + 1, none⟩) hgl).trans x1
          have t1 : Bv wr (pl k) (.slice a key.length c) (sd k) := ⟨_, sK, x2.symm⟩
          have t2 : Bv wr (pl k) (.slice a5 kn.length c5) (sd k) := ⟨_, sN, x3⟩
          have hp9 : pl k < 1081 := by omega
          have hki : (k : Int) < (n7 : Int) := by omega
          have hk0 : (0 : Int) ≤ (k : Int) := by omega
          have HX := hid hlt'
          rcases Nat.eq_zero_or_pos k with hk00 | hk00
          · subst hk00
            clear hst x0 x1 x2 x3 x4 x5 sK sN HST
            generalize pl 0 = pk at *
            generalize sd 0 = sk at *
            go_wp2_with fail
            go_quiet ((go_at_call 20; exact Calls.quiet_of_same (bv_any (by assumption) hp9 _)))
            go_wp2
            go_roundw
            case rel => exact ⟨0 + 1, HX.out, by go_num, HM2.out nq⟩
            case measure => have := HX.out; simp [intOf]; omega
          · obtain ⟨j, hj⟩ : ∃ j, j + 1 = k := ⟨k - 1, by omega⟩
            rw [← hj] at hlt'
            obtain ⟨y0', _, _, _, _, y5⟩ := hst j (by omega)
            have y0 : wr.cell? ⟨g, j * 34, none⟩ = some (.int .i64 (pl j)) := (b46.cell (p := ⟨g, j * 34, none⟩) hgl).trans y0'
            have hup := y5 hlt'
            rw [hj] at hup
            have hle : ¬ ((pl k : Int) ≤ (pl j : Int)) := by omega
            have hle2 : decide ((pl k : Int) ≤ (pl j : Int)) = false := by simp; omega
            have hle3 : (pl j : Int) < (pl k : Int) := by omega
            have hleN : ¬ (pl k ≤ pl j) := by omega
            have hleN2 : decide (pl k ≤ pl j) = false := by simp; omega
            have hleN3 : pl j < pl k := by omega
            have hsub : (k : Int) - 1 = (j : Int) := by omega
            have hgt : (0 : Int) < (k : Int) := by omega
            have hgt2 : decide ((0 : Int) < (k : Int)) = true := by simpa using hgt
            have hj0 : (0 : Int) ≤ (j : Int) := by omega
            have hjn : (j : Int) < (n7 : Int) := by omega
            clear hst x0 x1 x2 x3 x4 x5 sK sN HST y0' y5 hup
            have HJ := hid hj
            clear hj hlt'
            generalize pl k = pk at *
            generalize sd k = sk at *
            generalize pl j = pj at *
            go_wp2_with fail
            go_quiet ((go_at_call 20; exact Calls.quiet_of_same (bv_any (by assumption) hp9 _)))
            go_wp2
            go_roundw
            case rel => exact ⟨k + 1, HX.out, by go_num, HM2.out nq⟩
            case measure => have := HX.out; simp [intOf]; omega
        · have hki : (n7 : Int) ≤ (k : Int) := by omega
          go_wp2_with fail
          go_quiet ((go_at_call 12; exact Calls.quiet_of_same (HCN _)))
          go_wp2
          all_goals
            go_ret
            refine ⟨?_, HW.out nq⟩
            first
              | rfl
              | (refine congrArg (fun b => Ending.returned (.bool b)) ?_; simp only [decide_eq_true_eq]; omega)
              | (refine congrArg (fun b => Ending.returned (.bool b)) ?_; simp only [decide_eq_true_eq]; split <;> omega)
end Go.Proofs.YthkeofinamedfaaDoor
