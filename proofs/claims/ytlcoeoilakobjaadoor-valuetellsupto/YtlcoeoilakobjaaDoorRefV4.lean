/- The document's own digits, Number and Literal. -/
import Derived.Test.YtlcoeoilakobjaaDoorRefV1
import Derived.Test.YtlcoeoilakobjaaDoorVLit
import Derived.Deep.RegionWith
import Derived.Lib.ItoaMem
namespace Go.Proofs.YtlcoeoilakobjaaDoor
open Go.RowKit
set_option linter.unusedVariables false
set_option linter.unusedSimpArgs false
set_option maxRecDepth 20000

theorem conv_one (W : World) (g : Nat) (b : Int) (h0 : 0 ≤ b) (h1 : b ≤ 255) (h : W.cell? ⟨g, 0, none⟩ = some (.int .u8 b)) : (convert 30 9 (.slice (some ⟨g, 0, none⟩) 1 1)).run Tryd.prog W = .ok (.string (str8 [UInt8.ofNat b.toNat])) W := by
  refine run_string_shows (P := Tryd.prog) (B := g + 1) (bs := [UInt8.ofNat b.toNat]) 30 5 9 Tryd.underlying30 Tryd.underlying5 Tryd.underlying9 ⟨_, 1, rfl, Nat.le_refl _, by decide, (fun e => by cases e), fun _ => ⟨g, 0, rfl, by omega, fun j hj => ?_⟩⟩
  have : j = 0 := by simp at hj; omega
  subst this
  rw [Nat.zero_add, h]
  simp only [List.getElem?_cons_zero, Option.getD_some]
  refine congrArg (fun x => some (Value.int .u8 x)) ?_
  rw [UInt8.toNat_ofNat']
  omega

theorem bcell {W w1 : World} (hb : Below W.heap.size W w1) : (∀ b o, b < W.heap.size → w1.cell? ⟨b, o, none⟩ = W.cell? ⟨b, o, none⟩) := fun b o h => hb.cell (p := ⟨b, o, none⟩) h

theorem decDigits_le (u : Nat) : (Lib.decDigits u).length ≤ u + 1 := by
  induction u using Nat.strongRecOn with
  | _ u ih =>
    rw [Lib.decDigits]
    split
    · simp
    · have := ih (u / 10) (by omega)
      simp
      omega

set_option maxHeartbeats 1000000 in
theorem digits_any : ∀ (m : Nat) (n : Int) (w : World), n.toNat = m → 0 ≤ n → n ≤ 9223372036854775807 →
    Calls Tryd.prog 47 #[.int .i64 n] w fun e w' => e = .returned (.string (str8 (Lib.decDigits n.toNat))) ∧ Below w.heap.size w w' := by
  intro m
  induction m using Nat.strongRecOn with
  | _ m ih =>
    intro n w hm h0 h1
    by_cases h10 : n < 10
    · have hd : Lib.decDigits n.toNat = [UInt8.ofNat (48 + n.toNat)] := Lib.decDigits_one (by omega)
      rw [hd]
      have hw : IntKind.u8.wrap (48 + n) = 48 + n := by rw [IntKind.wrap_u8]; omega
      have hc := conv_one (w.alloc (.cells #[.int .u8 (48 + n)] 5)) w.heap.size (48 + n) (by omega) (by omega) (by simp)
      rw [show (48 + n).toNat = 48 + n.toNat by omega] at hc
      have hb : Hid (Below w.heap.size w (w.alloc (.cells #[.int .u8 (48 + n)] 5))) := hid ((Below.refl _ _).alloc (Nat.le_refl _) _)
      clear hd ih hm
      generalize str8 [UInt8.ofNat (48 + n.toNat)] = S at *
      go_enter Tryd.func47, Tryd.ntmps47
      go_wp2
      go_ret
      exact ⟨rfl, hb.out⟩
    · obtain ⟨q, hq⟩ : ∃ q : Int, n / 10 = q := ⟨_, rfl⟩
      obtain ⟨r, hr⟩ : ∃ r : Int, n % 10 = r := ⟨_, rfl⟩
      have hq0 : 0 ≤ q := by omega
      have hr0 : 0 ≤ r := by omega
      have hr9 : r ≤ 9 := by omega
      have hd : Lib.decDigits n.toNat = Lib.decDigits q.toNat ++ [UInt8.ofNat (48 + r).toNat] := by
        rw [Lib.decDigits, dif_neg (by omega), show n.toNat / 10 = q.toNat by omega, show 48 + n.toNat % 10 = (48 + r).toNat by omega]
      have hdl := decDigits_le q.toNat
      have HI := hid (fun w => ih q.toNat (by omega) q w rfl hq0 (by omega))
      obtain ⟨D, hD⟩ : ∃ D, Lib.decDigits q.toNat = D := ⟨_, rfl⟩
      obtain ⟨S, hS⟩ : ∃ S, [UInt8.ofNat (48 + r).toNat] = S := ⟨_, rfl⟩
      have hSl : S.length = 1 := by rw [← hS]; rfl
      have hadd : ∀ w, (Op.stringOp .add (str8 D) (str8 S)).run Tryd.prog w = .ok (.string (str8 (D ++ S))) w := fun w => by
        rw [run_string_add_sum w _ _ (by rw [str8_size, str8_size, hSl, ← hD]; omega), str8_add]
      rw [hd, hD, hS]
      rw [hD] at HI
      have hw : IntKind.u8.wrap (48 + r) = 48 + r := by rw [IntKind.wrap_u8]; omega
      have hc : ∀ (W : World) (g : Nat), W.cell? ⟨g, 0, none⟩ = some (.int .u8 (48 + r)) → (convert 30 9 (.slice (some ⟨g, 0, none⟩) 1 1)).run Tryd.prog W = .ok (.string (str8 S)) W := fun W g h => by
        rw [← hS]
        exact conv_one W g (48 + r) (by omega) (by omega) h
      have hb10 : ¬ n < 10 := h10
      have hq1 : IntKind.i64.wrap (n.tdiv 10) = q := by rw [Int.tdiv_eq_ediv_of_nonneg h0, hq, IntKind.wrap_i64]; omega
      have hr1 : n.tmod 10 = r := by rw [Int.tmod_eq_emod_of_nonneg h0, hr]
      have hw1 : IntKind.i64.wrap (48 + r) = 48 + r := by rw [IntKind.wrap_i64]; omega
      have hd0 : Hid (Below w.heap.size w w.drew) := hid (below_drewN (Below.refl _ _) 1)
      clear hq hr
      clear hd ih hm hD hS hSl hdl
      go_enter Tryd.func47, Tryd.ntmps47
      go_wp2_with fail
      go_region_with (go_at_call 47; refine (HI.out _).mono ?_; rintro e w2 ⟨rfl, hb2⟩; have hcl := bcell hb2)
      all_goals (
        have HB2 := hid hb2
        clear hb2
        go_wp2
        go_ret
        refine ⟨rfl, ?_⟩
        first
          | exact ((hd0.out.trans HB2.out).alloc (hd0.out.trans HB2.out).size _)
          | exact ((hd0.out.alloc hd0.out.size (.cells #[.int .u8 (48 + r)] 5)).trans (HB2.out.mono (hd0.out.alloc hd0.out.size (.cells #[.int .u8 (48 + r)] 5)).size)))

theorem digits_nat (u : Nat) (w : World) (n : Int) (hn : n = (u : Int)) (h1 : n ≤ 9223372036854775807) :
    Calls Tryd.prog 47 #[.int .i64 n] w fun e w' => e = .returned (.string (str8 (Lib.decDigits u))) ∧ Below w.heap.size w w' := by
  have := digits_any n.toNat n w rfl (by omega) h1
  rwa [show n.toNat = u by omega] at this

set_option maxHeartbeats 1000000 in
theorem number_any (n : Int) (w : World) (h0 : -9223372036854775808 ≤ n) (h1 : n ≤ 9223372036854775807) :
    Calls Tryd.prog 35 #[.int .i64 n] w fun e w' => e = .returned (.string (str8 (Lib.itoa n))) ∧ Below w.heap.size w w' := by
  by_cases hn : 0 ≤ n
  · have hd : Lib.itoa n = Lib.decDigits n.toNat := by unfold Lib.itoa; rw [if_neg (by omega)]
    have HD := hid (digits_nat n.toNat w n (by omega) h1)
    rw [hd]
    generalize Lib.decDigits n.toNat = D at *
    clear hd
    have hn' : decide (n < 0) = false := decide_eq_false (by omega)
    go_enter Tryd.func35, Tryd.ntmps35
    go_wp2_with fail
    refine HD.out.mono ?_
    rintro e w2 ⟨rfl, hb2⟩
    go_wp2
    go_ret
    exact ⟨rfl, hb2⟩
  · have hdl := decDigits_le n.natAbs
    by_cases h10 : -10 < n
    · have hd : Lib.itoa n = 45 :: Lib.decDigits n.natAbs := by unfold Lib.itoa; rw [if_pos (by omega)]
      have HD := hid (digits_nat n.natAbs w (-n) (by omega) (by omega))
      rw [hd]
      obtain ⟨D, hD⟩ : ∃ D, Lib.decDigits n.natAbs = D := ⟨_, rfl⟩
      rw [hD] at HD hdl ⊢
      have ha : ∀ w, (Op.stringOp .add ⟨#[45]⟩ (str8 D)).run Tryd.prog w = .ok (.string (str8 (45 :: D))) w := fun w => by
        rw [run_string_add_sum w _ _ (by rw [str8_size]; show 1 + D.length ≤ _; omega)]
        exact congrArg (fun x => Result.ok (Value.string x) w) (str8_add [45] D)
      clear hd hD hdl
      go_enter Tryd.func35, Tryd.ntmps35
      go_wp2_with fail
      refine HD.out.mono ?_
      rintro e w2 ⟨rfl, hb2⟩
      go_wp2
      go_ret
      exact ⟨rfl, hb2⟩
    · obtain ⟨u, hu⟩ : ∃ u : Nat, n = -(u : Int) := ⟨n.natAbs, by omega⟩
      have hd : Lib.itoa n = 45 :: (Lib.decDigits (u / 10) ++ Lib.decDigits (u % 10)) := by
        unfold Lib.itoa
        rw [if_pos (by omega), show n.natAbs = u by omega, Lib.decDigits, dif_neg (by omega), Lib.decDigits_one (show u % 10 < 10 by omega)]
      have t1 : n.tdiv 10 = -((u / 10 : Nat) : Int) := by rw [hu, Int.neg_tdiv, Int.tdiv_eq_ediv_of_nonneg (by omega)]; rfl
      have t2 : n.tmod 10 = -((u % 10 : Nat) : Int) := by rw [hu, Int.neg_tmod, Int.tmod_eq_emod_of_nonneg (by omega)]; rfl
      obtain ⟨q, hq⟩ : ∃ q : Int, ((u / 10 : Nat) : Int) = q := ⟨_, rfl⟩
      obtain ⟨r, hr⟩ : ∃ r : Int, ((u % 10 : Nat) : Int) = r := ⟨_, rfl⟩
      have hd1 := decDigits_le (u / 10)
      have hd2 := decDigits_le (u % 10)
      have HD := hid (fun w => digits_nat (u / 10) w q hq.symm (by omega))
      have HE := hid (fun w => digits_nat (u % 10) w r hr.symm (by omega))
      have hq0 : 0 ≤ q := by omega
      have hqm : q ≤ 922337203685477580 := by omega
      have hr0 : 0 ≤ r := by omega
      have hrm : r ≤ 9 := by omega
      rw [hq] at t1
      rw [hr] at t2
      rw [hd]
      obtain ⟨D, hD⟩ : ∃ D, Lib.decDigits (u / 10) = D := ⟨_, rfl⟩
      obtain ⟨E, hE⟩ : ∃ E, Lib.decDigits (u % 10) = E := ⟨_, rfl⟩
      rw [hD] at HD hd1 ⊢
      rw [hE] at HE hd2 ⊢
      have ha : ∀ w, (Op.stringOp .add ⟨#[45]⟩ (str8 D)).run Tryd.prog w = .ok (.string (str8 (45 :: D))) w := fun w => by
        rw [run_string_add_sum w _ _ (by rw [str8_size]; show 1 + D.length ≤ _; omega)]
        exact congrArg (fun x => Result.ok (Value.string x) w) (str8_add [45] D)
      have hb : ∀ w, (Op.stringOp .add (str8 (45 :: D)) (str8 E)).run Tryd.prog w = .ok (.string (str8 (45 :: (D ++ E)))) w := fun w => by
        rw [run_string_add_sum w _ _ (by rw [str8_size, str8_size]; show D.length + 1 + E.length ≤ _; omega)]
        exact congrArg (fun x => Result.ok (Value.string x) w) (str8_add (45 :: D) E)
      have t3 : n.tdiv 10 = -q := t1
      have t4 : wrap64 (-q) = -q := by rw [wrap64_eq]; omega
      have h10' : decide (-10 < n) = false := decide_eq_false h10
      have hn0 : n ≤ -10 := by omega
      clear hd hD hE hd1 hd2 hdl hu hq hr t1 h10
      go_enter Tryd.func35, Tryd.ntmps35
      go_wp2_with fail
      refine (HD.out _).mono ?_
      rintro e w2 ⟨rfl, hb2⟩
      go_wp2_with fail
      refine (HE.out _).mono ?_
      rintro e w3 ⟨rfl, hb3⟩
      go_wp2
      go_ret
      exact ⟨rfl, hb2.trans (hb3.mono hb2.size)⟩
end Go.Proofs.YtlcoeoilakobjaaDoor
