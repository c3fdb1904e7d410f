/- ValueOrders: whatever the values and the bytes. -/
import Derived.Test.YtlcoeoilakobjaaDoorBackV
import Derived.Test.YtlcoeoilakobjaaDoorBoxV
import Derived.Lib.ConvBytes
namespace Go.Proofs.YtlcoeoilakobjaaDoor
open Go.RowKit
set_option linter.unusedVariables false
set_option linter.unusedSimpArgs false
set_option maxRecDepth 20000

/-- '[]byte(s)'. -/
theorem conv_shows (w : World) (t : List UInt8) (ht : t.length ≤ 9223372036854775807) :
    ∃ V w', (convert 9 30 (.string (str8 t))).run Tryd.prog w = .ok V w' ∧ Shows w'.heap.size w' V t ∧ Below w.heap.size w w' := by
  have hrun := Lib.run_convert_string_bytes (P := Tryd.prog) w 9 30 5 (str8 t) Tryd.underlying9 Tryd.underlying30 Tryd.underlying5
  rw [str8_size] at hrun
  have hcap := grownCap_ge w t.length 0 5
  have hnew := Lib.bytesWorld_at_new w 5 (str8 t)
  have hsz := Lib.bytesWorld_size w 5 (str8 t)
  refine ⟨_, _, hrun, ⟨_, _, rfl, hcap, grownCap_le_maxLen w _ _ _ (by unfold maxLen; omega), (fun e => by cases e), fun _ => ⟨w.heap.size, 0, rfl, by rw [hsz]; omega, fun j hj => ?_⟩⟩, ⟨?_, ?_, ?_, by rw [hsz]; omega, fun i hi => Lib.bytesWorld_at_old w _ _ i hi⟩⟩
  · rw [Nat.zero_add, cell_row _ _ _ _ _ _ hnew]
    simp [Lib.bytesCells, str8]
    rw [Array.getElem?_append_left (by simpa using hj)]
    simp [List.getElem?_eq_getElem hj]
  all_goals simp [Lib.bytesWorld, World.freeze, World.alloc, World.drew, -World.alloc_eq, -World.drew_eq]

/-- A key's length is none just where there is an error. -/
theorem keyOf_len (x : Vl) : (rightV x ≠ 0 ∧ keyOfV x = []) ∨ (rightV x = 0 ∧ keyOfV x = keyV x ∧ 0 < (keyV x).length ∧ (keyV x).length ≤ 100) := by
  by_cases h : rightV x = 0
  · exact .inr ⟨h, if_pos h, List.length_pos_iff.2 keyV_ne, keyV_le h⟩
  · exact .inl ⟨h, if_neg h⟩

theorem own_form {w : World} {B e z n : Nat} {v : Value} {xs : List Value} (h : w.ownsRow B e z v n xs) : ∃ a c, v = .slice a n c := by
  rcases h.2 with ⟨rfl, rfl⟩ | ⟨g, cap, cur, rfl, _⟩
  · exact ⟨_, _, rfl⟩
  · exact ⟨_, _, rfl⟩

set_option maxHeartbeats 1000000 in
theorem orders_law (x y : Vl) (va : Value) (la : List UInt8) (vb : Value) (lb : List UInt8) (w : World) (ox : OkV x) (oy : OkV y) (ha : Shows w.heap.size w va la) (hla : la.length ≤ 140737488351232) (hb : Shows w.heap.size w vb lb) (hlb : lb.length ≤ 140737488351232) (hT : TabV w) :
    Calls Tryd.prog 6 #[.agg #[.int .i64 x.k, .int .i64 x.n, .string (str8 x.s)], .agg #[.int .i64 y.k, .int .i64 y.n, .string (str8 y.s)], va, vb] w fun e w' => e = .returned (.bool true) ∧ Below w.heap.size w w' := by
  obtain ⟨aa, ca, rfl, _⟩ := id ha
  obtain ⟨ab, cb, rfl, _⟩ := id hb
  have hg := Tryd.eqGuardVal
  have heq : ∀ w, _ := fun w => run_eqv x y w
  have hne : ∀ w, _ := fun w => run_nev x x w
  have hz0 := cmpV_zero x y
  have hrg := cmpV_range x y
  have hxx : eqv x x = true := eqv_iff.2 rfl
  rw [hxx] at hne
  have HKX := hid (fun w => key_any x.k x.n x.s w (by have := ox.2.2; omega))
  have HKY := hid (fun w => key_any y.k y.n y.s w (by have := oy.2.2; omega))
  have HCM := hid (fun w => compare_any x.k x.n y.k y.n x.s y.s w)
  change Hid (∀ w, Calls Tryd.prog 17 #[.agg #[.int .i64 x.k, .int .i64 x.n, .string (str8 x.s)]] w fun e w' => ∃ v', e = .returned (.tuple #[v', .int .i64 (rightV x)]) ∧ w'.ownsRow w.heap.size 5 1 v' (keyOfV x).length ((keyOfV x).map by8) ∧ Below w.heap.size w w') at HKX
  change Hid (∀ w, Calls Tryd.prog 17 #[.agg #[.int .i64 y.k, .int .i64 y.n, .string (str8 y.s)]] w fun e w' => ∃ v', e = .returned (.tuple #[v', .int .i64 (rightV y)]) ∧ w'.ownsRow w.heap.size 5 1 v' (keyOfV y).length ((keyOfV y).map by8) ∧ Below w.heap.size w w') at HKY
  change Hid (∀ w, Calls Tryd.prog 12 #[.agg #[.int .i64 x.k, .int .i64 x.n, .string (str8 x.s)], .agg #[.int .i64 y.k, .int .i64 y.n, .string (str8 y.s)]] w fun e w' => e = .returned (.int .i64 (cmpV x y)) ∧ Below w.heap.size w w') at HCM
  have HLX := hid (keyOf_len x)
  have HLY := hid (keyOf_len y)
  have HTK := hid (fun r (h : rightV x = 0) => tkV_key x r h ox.2.1.1 ox.2.1.2)
  have HLS := hid (fun (h : rightV x = 0) (h' : rightV y = 0) (hxy : x ≠ y) => key_lessV x y la lb h h' ox.2.1 oy.2.1 hxy)
  have HEQ := hid (eqv_iff (x := x) (y := y))
  obtain ⟨C, hC⟩ : ∃ C, cmpV x y = C := ⟨_, rfl⟩
  obtain ⟨E, hE⟩ : ∃ E, eqv x y = E := ⟨_, rfl⟩
  rw [hC] at HCM hz0 hrg HLS
  rw [hE] at heq hz0 HEQ
  rw [← hz0] at heq HEQ
  generalize hRX : rightV x = RX at *
  generalize hRY : rightV y = RY at *
  clear hC hE hz0 hRX hRY hxx
  obtain ⟨W, hW, hbW, hzW, hcW⟩ := boxes w (.int .i64 x.k) (.int .i64 x.n) (.string (str8 x.s)) (.int .i64 y.k) (.int .i64 y.n) (.string (str8 y.s)) 23
  have HSM := hid (small7_any W (hT.below hbW hT.lt))
  have HC := hid hcW
  have HB := hid hbW
  have HSA := hid ha
  have HSB := hid hb
  clear hT hcW hbW ox oy ha hb
  obtain ⟨xk, xn, xs⟩ := x
  obtain ⟨yk, yn, ys⟩ := y
  dsimp only at heq hne HKX HKY HCM hW HC ⊢
  go_enter Tryd.func6, Tryd.ntmps6
  go_wp2_with fail
  try rw [hW]
  clear hW
  refine HSM.out.mono ?_
  rintro e w1 ⟨rfl, d1⟩
  have D1 := hid d1
  have f0 := cells3 (HC.out w1 d1).1
  have f1 := cells3 (HC.out w1 d1).2
  clear d1
  go_wp2_with fail
  refine (HKX.out w1).mono ?_
  rintro e w2 ⟨vx, rfl, hownX, g2⟩
  have D2 : Hid (Below W.heap.size W w2) := hid (D1.out.trans (g2.mono D1.out.size))
  clear f0 f1 g2
  have f0 := cells3 (HC.out w2 D2.out).1
  have f1 := cells3 (HC.out w2 D2.out).2
  go_wp2_with fail
  refine (HKY.out w2).mono ?_
  rintro e w3 ⟨vy, rfl, hownY, g3⟩
  have D3 : Hid (Below W.heap.size W w3) := hid (D2.out.trans (g3.mono D2.out.size))
  have hownX := owns_on hownX g3
  clear f0 f1 g3
  have f0 := cells3 (HC.out w3 D3.out).1
  have f1 := cells3 (HC.out w3 D3.out).2
  have hsx := (shows_of_owns hownX).2
  have hsy := (shows_of_owns hownY).2
  have hB3 : Below w.heap.size w w3 := HB.out.trans (D3.out.mono HB.out.size)
  have hsa := HSA.out.below hB3
  have hsb := HSB.out.below hB3
  have HE3 := hid hB3
  obtain ⟨ax, cx, rfl⟩ := own_form hownX
  obtain ⟨ay, cy, rfl⟩ := own_form hownY
  clear hownX hownY HKX HKY HSM hB3
  rcases HLX.out with ⟨hrx, hkx⟩ | ⟨hrx, hkx, hx1, hx2⟩
  · have hrx' : (((RX : Nat) : Int) == 0) = false := by rw [beq_eq_false_iff_ne]; omega
    have hlx : (((keyOfV ⟨xk, xn, xs⟩).length : Int) == 0) = true := by rw [hkx]; rfl
    rcases HLY.out with ⟨hry, hky⟩ | ⟨hry, hky, hy1, hy2⟩
    · have hry' : (((RY : Nat) : Int) == 0) = false := by rw [beq_eq_false_iff_ne]; omega
      have hly : (((keyOfV ⟨yk, yn, ys⟩).length : Int) == 0) = true := by rw [hky]; rfl
      clear hkx hky HLX HLY HTK HLS HEQ hsx hsy hsa hsb hrx hry
      have hrx2 : (((RX : Nat) : Int) != 0) = true := by simp only [bne, hrx']; rfl
      generalize ((RX : Nat) : Int) = ex at *
      have hry2 : (((RY : Nat) : Int) != 0) = true := by simp only [bne, hry']; rfl
      generalize ((RY : Nat) : Int) = ey at *
      generalize (keyOfV ⟨xk, xn, xs⟩).length = NX at *
      generalize (keyOfV ⟨yk, yn, ys⟩).length = NY at *
      go_wp2
      go_ret
      exact ⟨rfl, HE3.out⟩
    · have hry' : (((RY : Nat) : Int) == 0) = true := by rw [hry]; rfl
      have hly : (((keyOfV ⟨yk, yn, ys⟩).length : Int) == 0) = false := by rw [hky, beq_eq_false_iff_ne]; omega
      clear hkx hky HLX HLY HTK HLS HEQ hsx hsy hsa hsb hrx hry
      have hrx2 : (((RX : Nat) : Int) != 0) = true := by simp only [bne, hrx']; rfl
      generalize ((RX : Nat) : Int) = ex at *
      have hry0 : RY = 0 := by simpa using hry'
      clear hry'
      subst hry0
      generalize (keyOfV ⟨xk, xn, xs⟩).length = NX at *
      generalize (keyOfV ⟨yk, yn, ys⟩).length = NY at *
      go_wp2
      go_ret
      exact ⟨rfl, HE3.out⟩
  · have hrx' : (((RX : Nat) : Int) == 0) = true := by rw [hrx]; rfl
    have hlx : (((keyOfV ⟨xk, xn, xs⟩).length : Int) == 0) = false := by rw [hkx, beq_eq_false_iff_ne]; omega
    rcases HLY.out with ⟨hry, hky⟩ | ⟨hry, hky, hy1, hy2⟩
    · have hry' : (((RY : Nat) : Int) == 0) = false := by rw [beq_eq_false_iff_ne]; omega
      have hly : (((keyOfV ⟨yk, yn, ys⟩).length : Int) == 0) = true := by rw [hky]; rfl
      clear hkx hky HLX HLY HTK HLS HEQ hsx hsy hsa hsb hrx hry
      have hrx0 : RX = 0 := by simpa using hrx'
      clear hrx'
      subst hrx0
      have hry2 : (((RY : Nat) : Int) != 0) = true := by simp only [bne, hry']; rfl
      generalize ((RY : Nat) : Int) = ey at *
      generalize (keyOfV ⟨xk, xn, xs⟩).length = NX at *
      generalize (keyOfV ⟨yk, yn, ys⟩).length = NY at *
      go_wp2
      go_ret
      exact ⟨rfl, HE3.out⟩
    · have hry' : (((RY : Nat) : Int) == 0) = true := by rw [hry]; rfl
      have hly : (((keyOfV ⟨yk, yn, ys⟩).length : Int) == 0) = false := by rw [hky, beq_eq_false_iff_ne]; omega
      by_cases hA : 65536 < la.length
      · have hA' : (65536 : Int) < (la.length : Int) := by omega
        clear hkx hky HLX HLY HTK HLS HEQ hsx hsy hsa hsb hrx hry
        have hrx0 : RX = 0 := by simpa using hrx'
        clear hrx'
        subst hrx0
        have hry0 : RY = 0 := by simpa using hry'
        clear hry'
        subst hry0
        generalize (keyOfV ⟨xk, xn, xs⟩).length = NX at *
        generalize (keyOfV ⟨yk, yn, ys⟩).length = NY at *
        go_wp2
        go_ret
        exact ⟨rfl, HE3.out⟩
      · have hA' : ¬ ((65536 : Int) < (la.length : Int)) := by omega
        by_cases hBl : 65536 < lb.length
        · have hBl' : (65536 : Int) < (lb.length : Int) := by omega
          clear hkx hky HLX HLY HTK HLS HEQ hsx hsy hsa hsb hrx hry
          have hrx0 : RX = 0 := by simpa using hrx'
          clear hrx'
          subst hrx0
          have hry0 : RY = 0 := by simpa using hry'
          clear hry'
          subst hry0
          generalize (keyOfV ⟨xk, xn, xs⟩).length = NX at *
          generalize (keyOfV ⟨yk, yn, ys⟩).length = NY at *
          go_wp2
          go_ret
          exact ⟨rfl, HE3.out⟩
        · have hBl' : ¬ ((65536 : Int) < (lb.length : Int)) := by omega
          rw [hkx] at hsx hlx ⊢
          rw [hky] at hsy hly ⊢
          have HTK2 := hid (HTK.out la hrx)
          have HLS2 := hid (HLS.out hrx hry)
          clear hkx hky HLX HLY HTK HLS
          obtain ⟨K, hK⟩ : ∃ K, keyV ⟨xk, xn, xs⟩ = K := ⟨_, rfl⟩
          obtain ⟨L, hL⟩ : ∃ L, keyV ⟨yk, yn, ys⟩ = L := ⟨_, rfl⟩
          rw [hK] at hsx hlx hx1 hx2 HTK2 HLS2 ⊢
          rw [hL] at hsy hly hy1 hy2 HLS2 ⊢
          clear hK hL
          have k1 := run_string_shows (P := Tryd.prog) 30 5 9 Tryd.underlying30 Tryd.underlying5 Tryd.underlying9 hsx
          have k2 := run_string_shows (P := Tryd.prog) 30 5 9 Tryd.underlying30 Tryd.underlying5 Tryd.underlying9 hsa
          have k3 := run_string_shows (P := Tryd.prog) 30 5 9 Tryd.underlying30 Tryd.underlying5 Tryd.underlying9 hsy
          have k4 := run_string_shows (P := Tryd.prog) 30 5 9 Tryd.underlying30 Tryd.underlying5 Tryd.underlying9 hsb
          have a1 : ∀ w, (Op.stringOp .add (str8 K) (str8 la)).run Tryd.prog w = .ok (.string (str8 (K ++ la))) w := fun w => by
            rw [run_string_add_sum w _ _ (by rw [str8_size, str8_size]; omega), str8_add]
          have a2 : ∀ w, (Op.stringOp .add (str8 L) (str8 lb)).run Tryd.prog w = .ok (.string (str8 (L ++ lb))) w := fun w => by
            rw [run_string_add_sum w _ _ (by rw [str8_size, str8_size]; omega), str8_add]
          have HPL : Hid ((K ++ la).length ≤ 70000) := hid (by rw [List.length_append]; omega)
          obtain ⟨PA, hPA⟩ : ∃ PA, K ++ la = PA := ⟨_, rfl⟩
          obtain ⟨PB, hPB⟩ : ∃ PB, L ++ lb = PB := ⟨_, rfl⟩
          rw [hPA] at a1 HTK2 HLS2 HPL
          rw [hPB] at a2 HLS2
          clear hPA hPB hsx hsy hsa hsb
          go_wp2_with fail
          refine (HCM.out w3).mono ?_
          rintro e w4 ⟨rfl, g4⟩
          have D4 : Hid (Below W.heap.size W w4) := hid (D3.out.trans (g4.mono D3.out.size))
          clear f0 f1 g4 k1 k2 k3 k4
          obtain ⟨V, w5, hcv, hsV, g5⟩ := conv_shows w4 PA (by have := HPL.out; omega)
          have D5 : Hid (Below W.heap.size W w5) := hid (D4.out.trans (g5.mono D4.out.size))
          have HSV := hid hsV
          clear g5 hsV
          go_wp2_with fail
          refine (takeKey_any w5.heap.size V PA w5 (Nat.le_refl _) HSV.out (by have := HPL.out; omega)).mono ?_
          rw [HTK2.out]
          dsimp only
          rintro e w6 ⟨rfl, g6⟩
          have D6 : Hid (Below W.heap.size W w6) := hid (D5.out.trans (g6.mono D5.out.size))
          clear g6
          have f0 := cells3 (HC.out w6 D6.out).1
          have f1 := cells3 (HC.out w6 D6.out).2
          have hz6 : w.heap.size + 1 < w6.heap.size := Nat.lt_of_lt_of_le hzW D6.out.size
          have q0 := fun o => cells3 (HC.out (w6.alloc o) (D6.out.alloc D6.out.size o)).1
          have q1 := fun o => cells3 (HC.out (w6.alloc o) (D6.out.alloc D6.out.size o)).2
          have HF : Hid (Below w.heap.size w (w6.alloc (.cells #[.int .i64 xk, .int .i64 xn, .string (str8 xs)] 23))) := hid (by
            have := HB.out.trans (D6.out.mono HB.out.size)
            exact this.alloc this.size _)
          have key : C = -1 ∨ C = 0 ∨ C = 1 := by omega
          rcases key with rfl | rfl | rfl
          · have hlt : Op.bytesLess (str8 PA).toList (str8 PB).toList = true := by
              rw [str8_toList, str8_toList]
              exact (HLS2.out fun e => by have := HEQ.out.2 e; simp at this).trans rfl
            simp only [show ((-1 : Int) == 0) = false from rfl] at heq
            clear HLS2 HTK2 HEQ
            go_wp2
            go_ret
            exact ⟨rfl, HF.out⟩
          · simp only [show ((0 : Int) == 0) = true from rfl] at heq
            clear HLS2 HTK2 HEQ
            go_wp2
            go_ret
            exact ⟨rfl, HF.out⟩
          · have hlt : Op.bytesLess (str8 PA).toList (str8 PB).toList = false := by
              rw [str8_toList, str8_toList]
              exact (HLS2.out fun e => by have := HEQ.out.2 e; simp at this).trans rfl
            simp only [show ((1 : Int) == 0) = false from rfl] at heq
            clear HLS2 HTK2 HEQ
            go_wp2
            go_ret
            exact ⟨rfl, HF.out⟩
end Go.Proofs.YtlcoeoilakobjaaDoor
