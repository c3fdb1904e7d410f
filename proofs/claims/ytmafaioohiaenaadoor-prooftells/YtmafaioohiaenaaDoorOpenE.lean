/- How arguments that are entries are read. -/
import Derived.Test.YtmafaioohiaenaaDoorNode
import Derived.Test.YtmafaioohiaenaaDoorOpen
import Derived.ChangeSame
import Derived.Test.YtmafaioohiaenaaDoorMadeF
namespace Go.Proofs.YtmafaioohiaenaaDoor
open Go.RowKit Go.ChangeShapes Go.WideShapes
set_option linter.unusedVariables false
set_option maxRecDepth 20000

theorem Tryd.cellsEntry : Tryd.prog.cellsOf 26 = 2 := by kernel_rfl
theorem Tryd.cellsBytesE : Tryd.prog.cellsOf 24 = 1 := by kernel_rfl
theorem Tryd.cellsU8E : Tryd.prog.cellsOf 5 = 1 := by kernel_rfl

section
variable {H : Type} {enc : TypeId × Value → H} {w : World} {base : Nat} {held : Bool}

theorem bytes_of_trod {fuel : Nat} {c : Value} {x : DataW H × List MemPlace} (f : DataW.trod enc Tryd.prog w base (fun _ => true) held fuel 24 [c] = some x) : ∃ bs, Says w c bs := by
  obtain ⟨va, vl, vc, rfl⟩ : ∃ va vl vc, c = .slice va vl vc := by
    rcases open_ints Tryd.underlying24 Tryd.underlying5 Tryd.cellsU8E f with ⟨hcs, _⟩ | ⟨y, l, c, zs, hcs, _⟩
    · simp only [List.cons.injEq, and_true] at hcs
      exact ⟨_, _, _, hcs⟩
    · simp only [List.cons.injEq, and_true] at hcs
      exact ⟨_, _, _, hcs⟩
  obtain ⟨bs, sh, _⟩ := shows_of_trod Tryd.underlying24 Tryd.underlying5 Tryd.cellsU8E f
  exact ⟨bs, sh⟩

theorem entry_of_trod {fuel : Nat} {cs : List Value} {x : DataW H × List MemPlace} (h : DataW.trod enc Tryd.prog w base (fun _ => true) held fuel 26 cs = some x) :
    ∃ ka va k v, cs = [ka, va] ∧ Says w ka k ∧ Says w va v := by
  obtain ⟨y0, y1, n, rfl, hl, f0, f1⟩ := trod_struct2 Tryd.underlying26 h
  rw [Tryd.cellsEntry] at hl
  match cs, hl with
  | [c0, c1], _ =>
    change DataW.trod enc Tryd.prog w base (fun _ => true) held n 24 (([c0, c1].drop 0).take (Tryd.prog.cellsOf 24)) = some y0 at f0
    change DataW.trod enc Tryd.prog w base (fun _ => true) held n 24 (([c0, c1].drop 1).take (Tryd.prog.cellsOf 24)) = some y1 at f1
    rw [Tryd.cellsBytesE] at f0 f1
    obtain ⟨k, hk⟩ := bytes_of_trod f0
    obtain ⟨v, hv⟩ := bytes_of_trod f1
    exact ⟨c0, c1, k, v, rfl, hk, hv⟩

/-- An entry that came in. -/
theorem open_entry {b0 : Nat} {v : Value} {d : DataW H} {ps : List MemPlace} (ho : Value.okWide Tryd.prog w .any b0 26 v) (hd : DataW.Trod enc Tryd.prog w base (fun _ => true) held 26 v d ps) :
    ∃ ka va k x, v = .agg #[ka, va] ∧ Says w ka k ∧ Says w va x := by
  obtain ⟨cs, rfl, hn⟩ := okWide_struct Tryd.underlying26 ho
  obtain ⟨fuel, hf⟩ := hd
  obtain ⟨ka, va, k, x, he, hk, hv⟩ := entry_of_trod hf
  have : cs.toList = [ka, va] := he
  exact ⟨ka, va, k, x, by rw [← Array.toArray_toList (xs := cs), this], hk, hv⟩
end
end Go.Proofs.YtmafaioohiaenaaDoor

/- How an argument that is a slice of the trie's acts is read. -/

namespace Go.Proofs.YtmafaioohiaenaaDoor
open Go.RowKit Go.ChangeShapes Go.WideShapes
set_option linter.unusedVariables false
set_option maxRecDepth 20000

section
variable {H : Type} {enc : TypeId × Value → H} {w : World} {base : Nat} {held : Bool}

end
end Go.Proofs.YtmafaioohiaenaaDoor
