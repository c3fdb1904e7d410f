/- A value that comes in. -/
import Derived.Test.YtlbhaknceiehiaaDoorOpenL
import Derived.Test.YtlbhaknceiehiaaDoorLLitL
namespace Go.Proofs.YtlbhaknceiehiaaDoor
open Go.ChangeShapes Go.WideShapes Go.RowKit
set_option linter.unusedVariables false
set_option maxRecDepth 20000

theorem wf_of {n : Int} (h : (Lit.int .i64 n).wf = true) : -9223372036854775808 ≤ n ∧ n ≤ 9223372036854775807 := by
  simpa [Lit.wf, IntKind.min, IntKind.max, IntKind.signed, IntKind.bits] using h

theorem Tryd.cellsVal : Tryd.prog.cellsOf 36 = 3 := by kernel_rfl
theorem Tryd.cellsInt7 : Tryd.prog.cellsOf 3 = 1 := by kernel_rfl
theorem Tryd.cellsStr7 : Tryd.prog.cellsOf 9 = 1 := by kernel_rfl

section
variable {H : Type} {enc : TypeId × Value → H} {w : World} {base : Nat} {held : Bool}

theorem val_of_trod {fuel : Nat} {cs : List Value} {x : DataW H × List MemPlace} (h : DataW.trod enc Tryd.prog w base (fun _ => true) held fuel 36 cs = some x) (hsz : ∀ n ∈ x.1.weights Tryd.prog 36, n ≤ reachBytes) :
    ∃ a : Vl, cs = [.int .i64 a.k, .int .i64 a.n, .string (str8 a.s)] ∧ OkW a ∧ x.1 = .agg [.lit (.int .i64 a.k), .lit (.int .i64 a.n), .lit (.string a.s)] := by
  obtain ⟨ys, n, _, rfl, hl, hlen, hf⟩ := DataW.trod_struct Tryd.underlying36 h
  rw [Tryd.cellsVal] at hl
  match cs, hl with
  | [c0, c1, c2], _ =>
    match ys, hlen with
    | [y0, y1, y2], _ =>
      have f0 : DataW.trod enc Tryd.prog w base (fun _ => true) held n 3 [c0] = some y0 := by
        have g := hf 0 _ rfl
        change DataW.trod enc Tryd.prog w base (fun _ => true) held n 3 (([c0, c1, c2].drop 0).take (Tryd.prog.cellsOf 3)) = some y0 at g
        rw [Tryd.cellsInt7] at g
        exact g
      have f1 : DataW.trod enc Tryd.prog w base (fun _ => true) held n 3 [c1] = some y1 := by
        have g := hf 1 _ rfl
        change DataW.trod enc Tryd.prog w base (fun _ => true) held n 3 (([c0, c1, c2].drop 1).take (Tryd.prog.cellsOf 3)) = some y1 at g
        rw [Tryd.cellsInt7] at g
        exact g
      have f2 : DataW.trod enc Tryd.prog w base (fun _ => true) held n 9 [c2] = some y2 := by
        have g := hf 2 _ rfl
        change DataW.trod enc Tryd.prog w base (fun _ => true) held n 9 (([c0, c1, c2].drop 2).take (Tryd.prog.cellsOf 9)) = some y2 at g
        rw [Tryd.cellsStr7] at g
        exact g
      obtain ⟨k, e0, d0, w0⟩ := DataW.trod_int Tryd.underlying3 f0
      obtain ⟨m, e1, d1, w1⟩ := DataW.trod_int Tryd.underlying3 f1
      obtain ⟨s, e2, d2, w2⟩ := DataW.trod_string Tryd.underlying9 f2
      simp only [List.cons.injEq, and_true] at e0 e1 e2
      subst e0 e1 e2 d0 d1 d2
      refine ⟨⟨k, m, s.data.toList⟩, by rw [str8_of], ⟨wf_of w0, wf_of w1, ?_⟩, rfl⟩
      have := hsz s.data.toList.length (by
        simp only [DataW.weights, Tryd.underlying36, List.map_cons, List.map_nil]
        exact DataW.weights_mem_each (j := 2) (t := 9) (d := .lit (.string s.data.toList)) rfl rfl _ (by simp [DataW.weights]))
      simp only [reachBytes] at this
      exact this

/-- A value that came in. -/
theorem open_val {b0 : Nat} {v : Value} {d : DataW H} {ps : List MemPlace} (ho : Value.okWide Tryd.prog w .any b0 36 v) (hd : DataW.Trod enc Tryd.prog w base (fun _ => true) held 36 v d ps) (hsz : ∀ n ∈ d.weights Tryd.prog 36, n ≤ reachBytes) :
    ∃ a : Vl, v = .agg #[.int .i64 a.k, .int .i64 a.n, .string (str8 a.s)] ∧ OkW a ∧ d = .agg [.lit (.int .i64 a.k), .lit (.int .i64 a.n), .lit (.string a.s)] := by
  obtain ⟨cs, rfl, hn⟩ := okWide_struct Tryd.underlying36 ho
  obtain ⟨fuel, hf⟩ := hd
  obtain ⟨a, he, hok, hda⟩ := val_of_trod hf hsz
  have : cs.toList = [.int .i64 a.k, .int .i64 a.n, .string (str8 a.s)] := he
  exact ⟨a, by rw [← Array.toArray_toList (xs := cs), this], hok, hda⟩
end
end Go.Proofs.YtlbhaknceiehiaaDoor
