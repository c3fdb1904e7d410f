/- What the readings give the walks of stage 15: the array of tests. -/
import Derived.Test.YthjgbcbgkafgjaaDoorRows
import Derived.Test.YthjgbcbgkafgjaaDoorPlPA
import Derived.Handed
import Derived.LaidLaws
import Derived.Lay
import Derived.SizedLaws
import Derived.MakeChecks
import Derived.OpenShut
import Derived.ChangeArms
namespace Go.Proofs.YthjgbcbgkafgjaaDoor
open Go.ChangeShapes Go.WideShapes Go.RowKit
set_option linter.unusedVariables false
set_option maxRecDepth 20000

abbrev laid15 : List (String × DataW Unit) := [("vestry/plan.tests", Rows.laid_vestry_plan_tests)]

theorem laid15_plain {W : World} (h : laidMetH Tryd.prog laid15 W) : laidMet Tryd.prog laid15 W := by
  rwa [MakeChecks.laidMetH_plain _ _ _ (by kernel_rfl)] at h

theorem tst_lt {W : World} (h : laidMet Tryd.prog laid15 W) : 0 < W.heap.size := by
  obtain ⟨ps, ⟨g1, t1, cs1, f1, p1, q1, hg1, ht1, hv1, hd1, _⟩, _⟩ := h
  have hg : Tryd.prog.globalNamed "vestry/plan.tests" = some 0 := by kernel_rfl
  obtain rfl := Option.some.inj (hg.symm.trans hg1)
  unfold World.var? at hv1
  rw [hg1] at hv1
  simp only [Option.bind_some] at hv1
  rcases Nat.lt_or_ge 0 W.heap.size with h | h
  · exact h
  · rw [Array.getElem?_eq_none h] at hv1
    cases hv1

theorem Tryd.cTest : Tryd.prog.cellsOf 51 = 3 := by kernel_rfl
theorem Tryd.cIntP : Tryd.prog.cellsOf 3 = 1 := by kernel_rfl

/-- One test. -/
theorem test_of_trod {H : Type} {enc : TypeId × Value → H} {W : World} {base : Nat} {spare : Nat → Bool} {held : Bool} {fuel : Nat} {cs : List Value} {ps : List MemPlace} {a b c : Int} (h : DataW.trod enc Tryd.prog W base spare held fuel 51 cs = some (.agg [.lit (.int .i64 a), .lit (.int .i64 b), .lit (.int .i64 c)], ps)) :
    cs = [.int .i64 a, .int .i64 b, .int .i64 c] := by
  obtain ⟨ys, m, _, hx, hl, hlen, hf⟩ := DataW.trod_struct Tryd.underlying51 h
  rw [Tryd.cTest] at hl
  match cs, hl with
  | [c0, c1, c2], _ =>
    match ys, hlen with
    | [y0, y1, y2], _ =>
      have f0 : DataW.trod enc Tryd.prog W base spare held m 3 [c0] = some y0 := by
        have g := hf 0 _ rfl
        change DataW.trod enc Tryd.prog W base spare held m 3 (([c0, c1, c2].drop 0).take (Tryd.prog.cellsOf 3)) = some y0 at g
        rw [Tryd.cIntP] at g
        exact g
      have f1 : DataW.trod enc Tryd.prog W base spare held m 3 [c1] = some y1 := by
        have g := hf 1 _ rfl
        change DataW.trod enc Tryd.prog W base spare held m 3 (([c0, c1, c2].drop 1).take (Tryd.prog.cellsOf 3)) = some y1 at g
        rw [Tryd.cIntP] at g
        exact g
      have f2 : DataW.trod enc Tryd.prog W base spare held m 3 [c2] = some y2 := by
        have g := hf 2 _ rfl
        change DataW.trod enc Tryd.prog W base spare held m 3 (([c0, c1, c2].drop 2).take (Tryd.prog.cellsOf 3)) = some y2 at g
        rw [Tryd.cIntP] at g
        exact g
      obtain ⟨n0, e0, d0, _⟩ := DataW.trod_int Tryd.underlying3 f0
      obtain ⟨n1, e1, d1, _⟩ := DataW.trod_int Tryd.underlying3 f1
      obtain ⟨n2, e2, d2, _⟩ := DataW.trod_int Tryd.underlying3 f2
      subst d0 d1 d2
      simp only [List.map_cons, List.map_nil, Prod.mk.injEq, DataW.agg.injEq, List.cons.injEq, DataW.lit.injEq, Lit.int.injEq, and_true, true_and] at hx
      obtain ⟨⟨rfl, rfl, rfl⟩, _⟩ := hx
      simp only [List.cons.injEq, and_true] at e0 e1 e2
      rw [e0, e1, e2]

theorem drop_three {cs : List Value} {k : Nat} {a b c : Value} (h : (cs.drop k).take 3 = [a, b, c]) : cs[k]? = some a ∧ cs[k + 1]? = some b ∧ cs[k + 2]? = some c := by
  have h0 : ((cs.drop k).take 3)[0]? = some a := by rw [h]; rfl
  have h1 : ((cs.drop k).take 3)[1]? = some b := by rw [h]; rfl
  have h2 : ((cs.drop k).take 3)[2]? = some c := by rw [h]; rfl
  rw [List.getElem?_take, if_pos (by decide), List.getElem?_drop] at h0 h1 h2
  exact ⟨by simpa using h0, h1, h2⟩

def tsD (o : Nat) : DataW Unit := .agg [.lit (.int .i64 (tstF o)), .lit (.int .i64 (tstT o)), .lit (.int .i64 (tstM o))]

theorem tst_of_laid {W : World} (hh : laidMetH Tryd.prog laid15 W) : TstAt W := by
  have h := laid15_plain hh
  refine ⟨?_, tst_lt h⟩
  obtain ⟨ps, ⟨g2, t2, cs2, f2, p2, q2, hg2, ht2, hv2, hd2, _⟩, _⟩ := h
  have hg : Tryd.prog.globalNamed "vestry/plan.tests" = some 0 := by kernel_rfl
  obtain rfl := Option.some.inj (hg.symm.trans hg2)
  obtain rfl := Option.some.inj ((show (Tryd.prog.globals[0]?).map (·.type) = some 52 by kernel_rfl).symm.trans ht2)
  obtain ⟨xs, m, _, hx, hl, hlen, hf⟩ := DataW.trod_array Tryd.underlying52 hd2
  have hdd : (Rows.laid_vestry_plan_tests : DataW Unit) = .agg ((List.range 9).map tsD) := by kernel_rfl
  rw [hdd] at hx
  simp only [Prod.mk.injEq, DataW.agg.injEq] at hx
  intro o ho
  have hf' := hf o (by omega)
  rw [Tryd.cTest] at hf'
  have hxo : (xs.map (·.1))[o]? = ((List.range 9).map tsD)[o]? := by rw [← hx.1]
  obtain ⟨x, hxe⟩ : ∃ x, xs[o]? = some x := ⟨_, List.getElem?_eq_getElem (by omega)⟩
  rw [hxe] at hf'
  rw [List.getElem?_map, hxe, List.getElem?_map, List.getElem?_range (by omega)] at hxo
  simp only [Option.map_some, Option.some.injEq] at hxo
  obtain ⟨d, pl⟩ := x
  dsimp only at hxo
  subst hxo
  obtain ⟨k0, k1, k2⟩ := drop_three (test_of_trod hf')
  have c0 := World.var?_cell hg hv2 (o * 3)
  have c1 := World.var?_cell hg hv2 (o * 3 + 1)
  have c2 := World.var?_cell hg hv2 (o * 3 + 2)
  rw [Array.getElem?_toList] at k0 k1 k2
  exact ⟨c0.trans k0, c1.trans k1, c2.trans k2⟩
end Go.Proofs.YthjgbcbgkafgjaaDoor
