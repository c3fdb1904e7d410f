/- For every input the call of RegistryCopies returns true, and each argument reads as it did. No condition but the reach of every row. -/
import Derived.Test.YtnhgjjpjmfjmjaaRows
import Derived.Test.YtnhgjjpjmfjmjaaCopiesL
import Derived.Test.YtnhgjjpjmfjmjaaOpen
import Derived.Test.YtnhgjjpjmfjmjaaOpenA
import Derived.WalkKit
import Derived.ProofKit
import Derived.OpenShut
import Derived.ShutString
import Derived.ChangeOld
import Derived.Below
import Derived.SizedLaws
import Derived.JoinedCond
namespace Go.Proofs.Ytnhgjjpjmfjmjaa.registryCopies
open Go.ChangeShapes Go.WideShapes Go.ChangeAt Go.RowKit
open Go.ChangeMaps (open_string shut_string)
set_option linter.unusedVariables false

theorem own : ownKnob Try.prog.godebug = none := by kernel_rfl
theorem laidOut : laidOutB Try.prog = true := by kernel_rfl
theorem bytesU8 : Try.prog.bytesOf 5 = 1 := by kernel_rfl

set_option maxRecDepth 100000 in
theorem lifted (os : Os) (started : os.Started) (H : Type) (enc : TypeId × Value → H) :
    ReturnsInHanded {} Try.checked os 6 .any (Rows.registryCopiesSpec.pre6 enc Try.prog Try.f6 Rows.registryCopiesRow.domain false) (Rows.registryCopiesSpec.post enc Try.prog Try.f6 false true false false) := by
  refine returnsInHanded_of_change_sized (C := Try.checked) own started (by kernel_rfl) Try.func6
    (ChangeSpec.witness6 (enc := enc) (C := Try.checked) false ⟨#[], #[.slice none 0 0, .int .i64 0, .slice none 0 0, .slice none 0 0], []⟩ 8 (by kernel_rfl) (by kernel_rfl) (by kernel_rfl) (by kernel_rfl)) ?_
  intro W base args ds gs before hval0 hW hcnd hsz0 _
  have hval : ∀ (j : Nat) t v, Try.f6.params[j]? = some t → args[j]? = some v → Value.okWide Try.prog W .any base t v := hval0
  have hW' := hW
  obtain ⟨p, q, hA0, hV, rfl, hfz, hnd⟩ := hW
  have hA : DataW.TrodAll enc Try.prog W 0 (fun _ => true) true Try.f6.params.toList args.toList ds p := hA0
  have hsz : (DataW.weightsEach Try.prog (Try.f6.params.toList ++ Rows.registryCopiesSpec.plain.varTypes Try.prog) (ds ++ gs)).all (· ≤ reachBytes) = true := hsz0
  rw [Try.params6] at hA hval hsz
  obtain ⟨v0, vs0, d0, ds0, p0, q0, hargs, rfl, rfl, h0, r0⟩ := trodAll_cons hA
  obtain ⟨v1, vs1, d1, ds1, p1, q1, rfl, rfl, rfl, h1, r1⟩ := trodAll_cons r0
  obtain ⟨v2, vs2, d2, ds2, p2, q2, rfl, rfl, rfl, h2, r2⟩ := trodAll_cons r1
  obtain ⟨v3, vs3, d3, ds3, p3, q3, rfl, rfl, rfl, h3, r3⟩ := trodAll_cons r2
  obtain ⟨rfl, rfl, rfl⟩ := trodAll_nil r3
  obtain rfl : args = #[v0, v1, v2, v3] := by cases args; simp_all
  obtain ⟨rfl, rfl⟩ := trodVars_none hV
  obtain ⟨a0, len0, cap0, rfl⟩ := okWide_slice Try.underlying22 (hval 0 22 v0 rfl rfl)
  have k0 := h0
  have lt0 : ∀ x ∈ p0, x.block < W.heap.size := by obtain ⟨m, hm⟩ := k0; exact DataW.trod_lt m _ _ _ hm
  obtain ⟨xs0, ac0⟩ : ∃ xs, Acts W.heap.size W (.slice a0 len0 cap0) xs := by
    obtain ⟨fuel, hf⟩ := h0
    exact acts_of_trod hf (fun n hn => by simpa using List.all_eq_true.1 hsz _ (DataW.weights_mem_each (j := 0) (t := 22) rfl rfl n hn))
  obtain ⟨a1, rfl, rfl, rfl, w1⟩ := open_int Try.underlying3 (hval 1 3 v1 rfl rfl) h1
  have hb1 : -9223372036854775808 ≤ a1 ∧ a1 ≤ 9223372036854775807 := by simpa [Lit.wf, IntKind.min, IntKind.max, IntKind.signed, IntKind.bits] using w1
  obtain ⟨a2, len2, cap2, rfl⟩ := okWide_slice Try.underlying28 (hval 2 28 v2 rfl rfl)
  have k2 := h2
  have lt2 : ∀ x ∈ p2, x.block < W.heap.size := by obtain ⟨m, hm⟩ := k2; exact DataW.trod_lt m _ _ _ hm
  obtain ⟨bs2, sh2, dd2⟩ : ∃ bs, Shows W.heap.size W (.slice a2 len2 cap2) bs ∧ (bs.length = 0 ∨ ∃ el sp, d2 = .slice el sp ∧ bs.length ≤ el.length + sp.length) := by
    obtain ⟨fuel, hf⟩ := h2
    exact shows_of_trod Try.underlying28 Try.underlying5 (by kernel_rfl) hf
  have l2 : bs2.length ≤ 140737488351232 := by
    rcases dd2 with h | ⟨el, sp, h, hle⟩
    · omega
    · have := sized_slice hsz (j := 2) (t := 28) (e := 5) (elems := el) (spare := sp) rfl (congrArg some h) Try.underlying28
      rw [bytesU8] at this
      simp only [reachBytes] at this
      omega
  obtain ⟨a3, len3, cap3, rfl⟩ := okWide_slice Try.underlying28 (hval 3 28 v3 rfl rfl)
  have k3 := h3
  have lt3 : ∀ x ∈ p3, x.block < W.heap.size := by obtain ⟨m, hm⟩ := k3; exact DataW.trod_lt m _ _ _ hm
  obtain ⟨bs3, sh3, dd3⟩ : ∃ bs, Shows W.heap.size W (.slice a3 len3 cap3) bs ∧ (bs.length = 0 ∨ ∃ el sp, d3 = .slice el sp ∧ bs.length ≤ el.length + sp.length) := by
    obtain ⟨fuel, hf⟩ := h3
    exact shows_of_trod Try.underlying28 Try.underlying5 (by kernel_rfl) hf
  have l3 : bs3.length ≤ 140737488351232 := by
    rcases dd3 with h | ⟨el, sp, h, hle⟩
    · omega
    · have := sized_slice hsz (j := 3) (t := 28) (e := 5) (elems := el) (spare := sp) rfl (congrArg some h) Try.underlying28
      rw [bytesU8] at this
      simp only [reachBytes] at this
      omega
  clear hA0 hval0
  refine (copies_law (.slice a0 len0 cap0) xs0 a1 (.slice a2 len2 cap2) bs2 (.slice a3 len3 cap3) bs3 W ac0 hb1 sh2 sh3).mono fun e W' ⟨he, bel⟩ => ?_
  subst he
  exact ⟨_, rfl, _, _, _, [], _, [], hW', trodAll_mk1 (shut_bool Try.underlying4 _), (trodAll_cons_mk (Below.trod laidOut (by kernel_rfl) (of_decide_eq_true (by kernel_rfl)) k0 bel lt0) (trodAll_cons_mk (shut_int Try.underlying3 w1) (trodAll_cons_mk (Below.trod laidOut (by kernel_rfl) (of_decide_eq_true (by kernel_rfl)) k2 bel lt2) (trodAll_cons_mk (Below.trod laidOut (by kernel_rfl) (of_decide_eq_true (by kernel_rfl)) k3 bel lt3) trodAll_mk0)))), rfl, bel.frame _, fun h => by cases h⟩

theorem over : Rows.registryCopiesRow.holds Try.pinned (OpenSpec.ofChange Rows.registryCopiesSpec) :=
  OpenClaim.holds_of_wide 6 Try.f6 rfl rfl rfl rfl rfl rfl rfl ⟨rfl, rfl, rfl, rfl, rfl⟩ rfl rfl rfl rfl rfl (by kernel_rfl) Try.func6 (by kernel_rfl)
    (of_decide_eq_true (by kernel_rfl)) (by unfold Func.isWrapper; first | (rw [if_pos (by decide +kernel)]; kernel_rfl) | (rw [if_neg (by decide +kernel)]; exact ⟨rfl, rfl⟩))
    (fun os started H enc _ => lifted os started H enc)
end Go.Proofs.Ytnhgjjpjmfjmjaa.registryCopies

namespace Go.Proofs.Ytnhgjjpjmfjmjaa
theorem registryCopies_holds : Rows.RegistryCopiesSaid := registryCopies.over
#print axioms registryCopies_holds
end Go.Proofs.Ytnhgjjpjmfjmjaa
