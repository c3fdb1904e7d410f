/- ValueBack: whatever the values and the bytes. -/
import Derived.Test.YtlcoeoilakobjaaDoorBackV
import Derived.Test.YtlcoeoilakobjaaDoorSameV
import Derived.Test.YtlcoeoilakobjaaDoorSmall7
namespace Go.Proofs.YtlcoeoilakobjaaDoor
open Go.RowKit
set_option linter.unusedVariables false
set_option linter.unusedSimpArgs false
set_option maxRecDepth 20000

theorem rowV_ok {xs : List Vl} (h : (rowV xs).1 = 0) : xs.length ≤ 8 ∧ rowE xs = 0 ∧ rowV xs = (0, rowK xs) := by
  unfold rowV at h ⊢
  by_cases h8 : 8 < xs.length
  · rw [if_pos h8] at h; cases h
  · rw [if_neg h8] at h ⊢
    by_cases he : rowE xs = 0
    · rw [if_neg (by simpa using he)]
      exact ⟨by omega, he, rfl⟩
    · rw [if_pos he] at h; exact absurd h he

theorem rowV_of {xs : List Vl} (h : xs.length ≤ 8) (he : rowE xs = 0) : rowV xs = (0, rowK xs) := by
  unfold rowV
  rw [if_neg (by omega), if_neg (by simpa using he)]

theorem rowK_le : ∀ {xs : List Vl}, rowE xs = 0 → (rowK xs).length ≤ 100 * xs.length
  | [], _ => by simp [rowK]
  | x :: xs, h => by
    have hr : rightV x = 0 := by
      by_cases h' : rightV x = 0
      · exact h'
      · rw [rowE, if_pos h'] at h; exact absurd h h'
    rw [rowE, if_neg (by simpa using hr)] at h
    have ih := rowK_le h
    have hk := keyV_le hr
    rw [show rowK (x :: xs) = keyV x ++ rowK xs from rfl, List.length_append, List.length_cons]
    omega

theorem own_formB {w : World} {B e z n : Nat} {v : Value} {xs : List Value} (h : w.ownsRow B e z v n xs) : ∃ a c, v = .slice a n c := by
  rcases h.2 with ⟨rfl, rfl⟩ | ⟨g, cap, cur, rfl, _⟩
  · exact ⟨_, _, rfl⟩
  · exact ⟨_, _, rfl⟩

set_option maxHeartbeats 1000000 in
theorem backV_law (v : Value) (xs : List Vl) (vb : Value) (bs : List UInt8) (w : World) (hv : Vals w.heap.size w v xs) (ho : ∀ y ∈ xs, OkV y) (hx : xs.length * 32 ≤ 140737488351232) (hb : Shows w.heap.size w vb bs) (hl : bs.length ≤ 140737488351232) (hT : TabV w) :
    Calls Tryd.prog 7 #[v, vb] w fun e w' => e = .returned (.bool true) ∧ Below w.heap.size w w' := by
  obtain ⟨av, cv, rfl, hv1, hv2, _⟩ := id hv
  obtain ⟨ab, cb, rfl, hb1, hb2, _⟩ := id hb
  have HV := hid hv
  have HO := hid ho
  have HS := hid hb
  have HSM := hid (small7_any w hT)
  unfold maxLen at hv2 hb2
  clear hv ho hb hT
  go_enter Tryd.func7, Tryd.ntmps7
  go_wp2_with fail
  refine HSM.out.mono ?_
  rintro e w1 ⟨rfl, d1⟩
  have D1 := hid d1
  clear d1 HSM
  go_wp2_with fail
  refine (vrow_any w.heap.size _ xs w1 D1.out.size (HV.out.below D1.out) (fun x h => by have := (HO.out x h).2.2; omega)).mono ?_
  rintro e w2 ⟨vx, rfl, hownX, g2⟩
  have D2 : Hid (Below w.heap.size w w2) := hid (D1.out.trans (g2.mono D1.out.size))
  clear g2
  -- what stands behind the first half
  have rest : ∀ W, Below w.heap.size w W → Hid (Below w.heap.size w W ∧ Shows w.heap.size W (.slice ab bs.length cb) bs) := fun W hW => hid ⟨hW, HS.out.below hW⟩
  by_cases hr : (rowV xs).1 = 0
  · obtain ⟨x8, xe, xr⟩ := rowV_ok hr
    rw [xr] at hownX ⊢
    have hkl := rowK_le xe
    have hsx := (shows_of_owns hownX).2
    have HTR := hid (vtakeRow_any w2.heap.size vx (rowK xs) w2 (Nat.le_refl _) hsx (by omega))
    rw [trV_row 8 xs x8 xe HO.out] at HTR
    clear xr hr hownX hsx
    generalize rowK xs = K at *
    go_wp2_with fail
    refine HTR.out.mono ?_
    rintro e w3 ⟨vy, rfl, hownY, g3⟩
    have D3 : Hid (Below w.heap.size w w3) := hid (D2.out.trans (g3.mono D2.out.size))
    have hvy := (vals_of_owns hownY).2
    have HSA := hid (same_any w3.heap.size vy _ xs w3 hvy ((HV.out.below D3.out).mono D3.out.size))
    clear HTR g3 hownY hvy
    go_wp2_with fail
    refine HSA.out.mono ?_
    rintro e w4 ⟨rfl, g4⟩
    have D4 : Hid (Below w.heap.size w w4) := hid (D3.out.trans (g4.mono D3.out.size))
    clear HSA g4
    obtain ⟨_, hsb⟩ := (rest w4 D4.out).out
    have HTB := hid (vtakeRow_any w.heap.size _ bs w4 D4.out.size hsb hl)
    have HBK := hid (trV_back 8 bs)
    have HER := hid (trV_errs 8 bs)
    clear hsb rest
    obtain ⟨er, ys, hR⟩ : ∃ er ys, trV 8 bs = (er, ys) := ⟨_, _, rfl⟩
    rw [hR] at HTB HBK HER
    dsimp only at HTB HBK HER
    clear hR
    go_wp2_with fail
    refine HTB.out.mono ?_
    rintro e w5 ⟨vz, rfl, hownZ, g5⟩
    have D5 : Hid (Below w.heap.size w w5) := hid (D4.out.trans (g5.mono D4.out.size))
    clear HTB g5
    by_cases he : er = 0
    · subst he
      obtain ⟨y8, ye, yk, yo⟩ := HBK.out rfl
      have hrv := rowV_of y8 ye
      rw [yk] at hrv
      have hvz := (vals_of_owns hownZ).2
      have HRW := hid (vrow_any w5.heap.size vz ys w5 (Nat.le_refl _) hvz (fun x h => by have := (yo x h).2.2; omega))
      rw [hrv] at HRW
      clear HBK HER hrv hvz hownZ yk
      go_wp2_with fail
      refine HRW.out.mono ?_
      rintro e w6 ⟨vk, rfl, hownK, g6⟩
      have D6 : Hid (Below w.heap.size w w6) := hid (D5.out.trans (g6.mono D5.out.size))
      have k1 := run_string_shows (P := Tryd.prog) 30 5 9 Tryd.underlying30 Tryd.underlying5 Tryd.underlying9 (shows_of_owns hownK).2
      have k2 := run_string_shows (P := Tryd.prog) 30 5 9 Tryd.underlying30 Tryd.underlying5 Tryd.underlying9 (HS.out.below D6.out)
      clear HRW g6 hownK
      go_wp2
      go_ret
      exact ⟨by simp, D6.out⟩
    · have hy := HER.out he
      subst hy
      have he' : (((er : Nat) : Int) == 0) = false := by rw [beq_eq_false_iff_ne]; omega
      obtain ⟨az, cz, rfl⟩ := own_formB hownZ
      clear HBK HER hownZ he
      generalize ((er : Nat) : Int) = EZ at *
      go_wp2
      go_ret
      exact ⟨rfl, D5.out⟩
  · have hr' : ((((rowV xs).1 : Nat) : Int) == 0) = false := by rw [beq_eq_false_iff_ne]; omega
    clear hr hownX
    generalize (((rowV xs).1 : Nat) : Int) = RX at *
    obtain ⟨_, hsb⟩ := (rest w2 D2.out).out
    have HTB := hid (vtakeRow_any w.heap.size _ bs w2 D2.out.size hsb hl)
    have HBK := hid (trV_back 8 bs)
    have HER := hid (trV_errs 8 bs)
    clear hsb rest
    obtain ⟨er, ys, hR⟩ : ∃ er ys, trV 8 bs = (er, ys) := ⟨_, _, rfl⟩
    rw [hR] at HTB HBK HER
    dsimp only at HTB HBK HER
    clear hR
    go_wp2_with fail
    refine HTB.out.mono ?_
    rintro e w5 ⟨vz, rfl, hownZ, g5⟩
    have D5 : Hid (Below w.heap.size w w5) := hid (D2.out.trans (g5.mono D2.out.size))
    clear HTB g5
    by_cases he : er = 0
    · subst he
      obtain ⟨y8, ye, yk, yo⟩ := HBK.out rfl
      have hrv := rowV_of y8 ye
      rw [yk] at hrv
      have hvz := (vals_of_owns hownZ).2
      have HRW := hid (vrow_any w5.heap.size vz ys w5 (Nat.le_refl _) hvz (fun x h => by have := (yo x h).2.2; omega))
      rw [hrv] at HRW
      clear HBK HER hrv hvz hownZ yk
      go_wp2_with fail
      refine HRW.out.mono ?_
      rintro e w6 ⟨vk, rfl, hownK, g6⟩
      have D6 : Hid (Below w.heap.size w w6) := hid (D5.out.trans (g6.mono D5.out.size))
      have k1 := run_string_shows (P := Tryd.prog) 30 5 9 Tryd.underlying30 Tryd.underlying5 Tryd.underlying9 (shows_of_owns hownK).2
      have k2 := run_string_shows (P := Tryd.prog) 30 5 9 Tryd.underlying30 Tryd.underlying5 Tryd.underlying9 (HS.out.below D6.out)
      clear HRW g6 hownK
      go_wp2
      go_ret
      exact ⟨by simp, D6.out⟩
    · have hy := HER.out he
      subst hy
      have he' : (((er : Nat) : Int) == 0) = false := by rw [beq_eq_false_iff_ne]; omega
      obtain ⟨az, cz, rfl⟩ := own_formB hownZ
      clear HBK HER hownZ he
      generalize ((er : Nat) : Int) = EZ at *
      go_wp2
      go_ret
      exact ⟨rfl, D5.out⟩
end Go.Proofs.YtlcoeoilakobjaaDoor
