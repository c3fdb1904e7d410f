/- The law's small case. -/
import Derived.Test.YtokfphfgcjbpkaaGreatDoorPLaw
import Derived.Test.YtokfphfgcjbpkaaGreatDoorPSameA
namespace Go.Proofs.YtokfphfgcjbpkaaGreatDoor
open Go.RowKit Go.Shelf
set_option linter.unusedVariables false
set_option linter.unusedSimpArgs false
set_option maxRecDepth 20000

theorem small_script : scriptA [83, 69, 76, 69, 67, 84, 32, 42, 32, 70, 82, 79, 77, 32, 116, 32, 76, 73, 77, 73, 84, 32, 50] = ([{ zSt 6 with items := [⟨1, []⟩], tb := [116], lim := 2 }], 0, 0) := by kernel_rfl

theorem small_one : oneA [49, 32, 43, 32, 50, 32, 42, 32, 45, 51] = (exOp 9 (exVal ⟨1, 1, []⟩) (exOp 11 (exVal ⟨1, 2, []⟩) (exVal ⟨1, -3, []⟩)), 0, 0) := by kernel_rfl

set_option maxHeartbeats 2000000 in
theorem small9_any (w : World) (hT : TabL w) : Calls Tryz.prog 8 #[] w fun e w' => e = .returned (.bool true) ∧ Below w.heap.size w w' := by
  have hgf := Tryz.eqGuardFault
  have qf : ∀ w, (binOp .eql 26 (.agg #[.int .i64 0, .int .i64 0]) (.agg #[.int .i64 0, .int .i64 0])).run Tryz.prog w = .ok (.bool true) w := run_eqfault 0 0
  have HK : Hid (Calls Tryz.prog 10 #[.string ⟨#[83, 69, 76, 69, 67, 84, 32, 42, 32, 70, 82, 79, 77, 32, 116, 32, 76, 73, 77, 73, 84, 32, 50]⟩] w fun e w' => ∃ (aa : Option Addr) (nn cc : Nat), e = .returned (.tuple #[.slice aa nn cc, .agg #[.int .i64 0, .int .i64 0]]) ∧ SlAt 14 StE (fun b => w.heap.size ≤ b) w' [{ zSt 6 with items := [⟨1, []⟩], tb := [116], lim := 2 }] (.slice aa nn cc) ∧ Below w.heap.size w w') := hid (by
    have := script_any [83, 69, 76, 69, 67, 84, 32, 42, 32, 70, 82, 79, 77, 32, 116, 32, 76, 73, 77, 73, 84, 32, 50] w hT (by decide)
    rw [small_script] at this
    exact this)
  have HO : Hid (∀ V, TabL V → Calls Tryz.prog 15 #[.string ⟨#[49, 32, 43, 32, 50, 32, 42, 32, 45, 51]⟩] V fun e w' => ∃ u, e = .returned (.tuple #[u, .agg #[.int .i64 0, .int .i64 0]]) ∧ ExV (fun b => V.heap.size ≤ b) w' (exOp 9 (exVal ⟨1, 1, []⟩) (exOp 11 (exVal ⟨1, 2, []⟩) (exVal ⟨1, -3, []⟩))) u ∧ Below V.heap.size V w') := hid (fun V hV => by
    have := one_any [49, 32, 43, 32, 50, 32, 42, 32, 45, 51] V hV (by decide)
    rw [small_one] at this
    exact this)
  have HT := hid hT
  clear hT
  go_enter Tryz.func8, Tryz.ntmps8
  go_wp2_with fail
  refine HK.out.mono ?_
  rintro e w1 ⟨aa, nn, cc, rfl, hl1, hb1⟩
  obtain ⟨b, off, c, hv, hlc, hcm, hel⟩ := hl1.opened (by decide) (by simp)
  simp only [Value.slice.injEq] at hv
  obtain ⟨rfl, rfl, rfl⟩ := hv
  obtain ⟨cs, hE, hcl⟩ := hel 0 _ rfl
  obtain ⟨a1, a2, a3, a4, a5, a6, a7, a8, m1, m2, m3, m4, m5, m6, m7, m8, c1, c2, c3, c4, c5, c6, c7, c8, rfl, _⟩ := hE
  go_wp2_with fail
  obtain ⟨V1, hV1, hbV1, hzV1, hcV1⟩ := box2 w1 (.int .i64 0) (.int .i64 0) 26
  have HB1 : Hid (Below w.heap.size w V1) := hid (hb1.trans (hbV1.mono hb1.size))
  have HO1 := hid (HO.out V1 (HT.out.on HB1.out))
  have HCL := hid (fun Z (hZ : Below V1.heap.size V1 Z) => (⟨hcl Z (hbV1.trans (hZ.mono hbV1.size)) 0 _ rfl, hcl Z (hbV1.trans (hZ.mono hbV1.size)) 1 _ rfl, hcl Z (hbV1.trans (hZ.mono hbV1.size)) 13 _ rfl⟩ : _ ∧ _ ∧ _))
  have HCF := hid hcV1
  clear hl1 hel hcl hb1 hbV1 hcV1 HK HO
  rw [hV1]
  clear hV1
  refine HO1.out.mono ?_
  rintro e w2 ⟨u, rfl, hu, hb2⟩
  obtain ⟨k3, op3, tb3, nm3, vk3, vn3, vs3, ys3, aa3, nn3, cc3, hxe, rfl, ha3⟩ := hu
  simp only [exOp, exVal, zV, Ex.mk.injEq, Vl.mk.injEq] at hxe
  obtain ⟨rfl, rfl, rfl, rfl, ⟨rfl, rfl, rfl⟩, rfl⟩ := hxe
  obtain ⟨b3, off3, hae, hc1, hc2, hfin⟩ : ∃ b3 off3, Value.slice aa3 nn3 cc3 = .slice (some ⟨b3, off3, none⟩) 2 cc3 ∧ 2 ≤ cc3 ∧ cc3 ≤ maxLen ∧ ∀ Z, Below w2.heap.size w2 Z → Z.cell? ⟨b3, off3 + 8 + 1, none⟩ = some (.int .i64 11) := by
    generalize hvs : Value.slice aa3 nn3 cc3 = av at ha3
    cases ha3 with
    | cons _ b3 off3 c3 avs hne hS hl hc hcell hrec =>
      simp only [Value.slice.injEq] at hvs
      obtain ⟨_, _, rfl⟩ := hvs
      refine ⟨b3, off3, rfl, hl, hc, fun Z hZ => ?_⟩
      have h1 := hcell 1 _ _ _ _ _ _ _ _ rfl
      have h2 := h1.2.1
      rw [Nat.one_mul] at h2
      exact (hZ.cell (p := ⟨b3, _, none⟩) (World.block_lt_of_cell? w2 _ h2)).trans h2
  simp only [Value.slice.injEq] at hae
  obtain ⟨rfl, rfl, _⟩ := hae
  have hB2 : ∀ o1 o2, Below w2.heap.size w2 ((w2.alloc o1).alloc o2) := fun o1 o2 => ((Below.refl _ w2).alloc (Nat.le_refl _) o1).alloc (by simp) o2
  have hV1U := fun o1 o2 => hb2.trans ((hB2 o1 o2).mono hb2.size)
  have pp := fun o1 o2 => by
    obtain ⟨p0, p1, p13⟩ := HCL.out _ (hV1U o1 o2)
    rw [Nat.zero_mul, Nat.add_zero] at p0 p1 p13
    exact (⟨p0, p1, p13⟩ : _ ∧ _ ∧ _)
  have kF := fun o1 o2 => cells2 (HCF.out _ (hV1U o1 o2))
  have k11 := fun o1 o2 => hfin _ (hB2 o1 o2)
  have HBU : Hid (∀ o1 o2, Below w.heap.size w ((w2.alloc o1).alloc o2)) := hid (fun o1 o2 => HB1.out.trans ((hV1U o1 o2).mono HB1.out.size))
  have hcm' : (1 : Int) < 2 := by decide
  have e116 : ((str8 [116]).toList == [116]) = true := by rw [str8_toList]; rfl
  clear hb2 hB2 hfin ha3 HCL HCF HO1 hV1U
  go_wp2
  go_ret
  exact ⟨rfl, HBU.out _ _⟩

end Go.Proofs.YtokfphfgcjbpkaaGreatDoor
