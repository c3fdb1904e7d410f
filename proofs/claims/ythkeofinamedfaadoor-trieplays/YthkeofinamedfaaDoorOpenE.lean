/- How arguments that are entries are read. -/
import Derived.Test.YthkeofinamedfaaDoorNode
import Derived.Test.YthkeofinamedfaaDoorOpen
import Derived.ChangeSame
import Derived.Test.YthkeofinamedfaaDoorMadeF
namespace Go.Proofs.YthkeofinamedfaaDoor
open Go.RowKit Go.ChangeShapes Go.WideShapes
set_option linter.unusedVariables false
set_option maxRecDepth 20000

theorem Tryd.cellsEntry : Tryd.prog.cellsOf 52 = 2 := by kernel_rfl
theorem Tryd.cellsBytesE : Tryd.prog.cellsOf 28 = 1 := by kernel_rfl
theorem Tryd.cellsU8E : Tryd.prog.cellsOf 5 = 1 := by kernel_rfl

section
variable {H : Type} {enc : TypeId × Value → H} {w : World} {base : Nat} {held : Bool}

theorem bytes_of_trod {fuel : Nat} {c : Value} {x : DataW H × List MemPlace} (f : DataW.trod enc Tryd.prog w base (fun _ => true) held fuel 28 [c] = some x) : ∃ bs, Says w c bs := by
  obtain ⟨va, vl, vc, rfl⟩ : ∃ va vl vc, c = .slice va vl vc := by
    rcases open_ints Tryd.underlying28 Tryd.underlying5 Tryd.cellsU8E f with ⟨hcs, _⟩ | ⟨y, l, c, zs, hcs, _⟩
    · simp only [List.cons.injEq, and_true] at hcs
      exact ⟨_, _, _, hcs⟩
    · simp only [List.cons.injEq, and_true] at hcs
      exact ⟨_, _, _, hcs⟩
  obtain ⟨bs, sh, _⟩ := shows_of_trod Tryd.underlying28 Tryd.underlying5 Tryd.cellsU8E f
  exact ⟨bs, sh⟩

theorem entry_of_trod {fuel : Nat} {cs : List Value} {x : DataW H × List MemPlace} (h : DataW.trod enc Tryd.prog w base (fun _ => true) held fuel 52 cs = some x) :
    ∃ ka va k v, cs = [ka, va] ∧ Says w ka k ∧ Says w va v := by
  obtain ⟨y0, y1, n, rfl, hl, f0, f1⟩ := trod_struct2 Tryd.underlying52 h
  rw [Tryd.cellsEntry] at hl
  match cs, hl with
  | [c0, c1], _ =>
    change DataW.trod enc Tryd.prog w base (fun _ => true) held n 28 (([c0, c1].drop 0).take (Tryd.prog.cellsOf 28)) = some y0 at f0
    change DataW.trod enc Tryd.prog w base (fun _ => true) held n 28 (([c0, c1].drop 1).take (Tryd.prog.cellsOf 28)) = some y1 at f1
    rw [Tryd.cellsBytesE] at f0 f1
    obtain ⟨k, hk⟩ := bytes_of_trod f0
    obtain ⟨v, hv⟩ := bytes_of_trod f1
    exact ⟨c0, c1, k, v, rfl, hk, hv⟩

/-- An entry that came in. -/
theorem open_entry {b0 : Nat} {v : Value} {d : DataW H} {ps : List MemPlace} (ho : Value.okWide Tryd.prog w .any b0 52 v) (hd : DataW.Trod enc Tryd.prog w base (fun _ => true) held 52 v d ps) :
    ∃ ka va k x, v = .agg #[ka, va] ∧ Says w ka k ∧ Says w va x := by
  obtain ⟨cs, rfl, hn⟩ := okWide_struct Tryd.underlying52 ho
  obtain ⟨fuel, hf⟩ := hd
  obtain ⟨ka, va, k, x, he, hk, hv⟩ := entry_of_trod hf
  have : cs.toList = [ka, va] := he
  exact ⟨ka, va, k, x, by rw [← Array.toArray_toList (xs := cs), this], hk, hv⟩
end
end Go.Proofs.YthkeofinamedfaaDoor

/- How an argument that is a slice of the trie's acts is read. -/

namespace Go.Proofs.YthkeofinamedfaaDoor
open Go.RowKit Go.ChangeShapes Go.WideShapes
set_option linter.unusedVariables false
set_option maxRecDepth 20000

theorem Tryd.cellsAct4 : Tryd.prog.cellsOf 30 = 3 := by kernel_rfl
theorem Tryd.cellsInt4 : Tryd.prog.cellsOf 3 = 1 := by kernel_rfl

section
variable {H : Type} {enc : TypeId × Value → H} {w : World} {base : Nat} {held : Bool}

theorem act_of_trod {fuel : Nat} {cs : List Value} {x : DataW H × List MemPlace} (h : DataW.trod enc Tryd.prog w base (fun _ => true) held fuel 30 cs = some x) :
    ∃ a : ActV, cs = [.int .i64 a.d, a.kv, a.vv] ∧ (-9223372036854775808 ≤ a.d ∧ a.d ≤ 9223372036854775807) ∧ Says w a.kv a.k ∧ Says w a.vv a.v := by
  obtain ⟨ys, n, _, rfl, hl, hlen, hf⟩ := DataW.trod_struct Tryd.underlying30 h
  rw [Tryd.cellsAct4] at hl
  match cs, hl with
  | [c0, c1, c2], _ =>
    match ys, hlen with
    | [y0, y1, y2], _ =>
      have f0 : DataW.trod enc Tryd.prog w base (fun _ => true) held n 3 [c0] = some y0 := by
        have g := hf 0 _ rfl
        change DataW.trod enc Tryd.prog w base (fun _ => true) held n 3 (([c0, c1, c2].drop 0).take (Tryd.prog.cellsOf 3)) = some y0 at g
        rw [Tryd.cellsInt4] at g
        exact g
      have f1 : DataW.trod enc Tryd.prog w base (fun _ => true) held n 28 [c1] = some y1 := by
        have g := hf 1 _ rfl
        change DataW.trod enc Tryd.prog w base (fun _ => true) held n 28 (([c0, c1, c2].drop 1).take (Tryd.prog.cellsOf 28)) = some y1 at g
        rw [Tryd.cellsBytesE] at g
        exact g
      have f2 : DataW.trod enc Tryd.prog w base (fun _ => true) held n 28 [c2] = some y2 := by
        have g := hf 2 _ rfl
        change DataW.trod enc Tryd.prog w base (fun _ => true) held n 28 (([c0, c1, c2].drop 2).take (Tryd.prog.cellsOf 28)) = some y2 at g
        rw [Tryd.cellsBytesE] at g
        exact g
      obtain ⟨d, e0, _, w0⟩ := DataW.trod_int Tryd.underlying3 f0
      obtain ⟨k, hk⟩ := bytes_of_trod f1
      obtain ⟨v, hv⟩ := bytes_of_trod f2
      simp only [List.cons.injEq, and_true] at e0
      subst e0
      exact ⟨⟨d, c1, c2, k, v⟩, rfl, by simpa [Lit.wf, IntKind.min, IntKind.max, IntKind.signed, IntKind.bits] using w0, hk, hv⟩

theorem acts_of_trod {fuel : Nat} {a : Option Addr} {len cap : Nat} {x : DataW H × List MemPlace} (h : DataW.trod enc Tryd.prog w base (fun _ => true) held fuel 22 [.slice a len cap] = some x) :
    ∃ xs, Acts w.heap.size w (.slice a len cap) xs := by
  rcases Deep.open_slice Tryd.underlying22 h with ⟨hcs, _⟩ | ⟨y, l, c, m, n, D, Pl, hcs, _, hl, hm, hmm, hx, hr⟩
  · simp only [List.cons.injEq, Value.slice.injEq, and_true] at hcs
    obtain ⟨rfl, rfl, rfl⟩ := hcs
    exact ⟨[], none, 0, rfl, Nat.le_refl _, Nat.zero_le _, fun h => absurd rfl h⟩
  · simp only [List.cons.injEq, Value.slice.injEq, and_true] at hcs
    obtain ⟨rfl, rfl, rfl⟩ := hcs
    simp only [if_true] at hmm
    subst hmm
    have one : ∀ i, i < len → ∃ av : ActV, w.cells? base (y.add (i * 3)) 3 = some [.int .i64 av.d, av.kv, av.vv] ∧ (-9223372036854775808 ≤ av.d ∧ av.d ≤ 9223372036854775807) ∧ Says w av.kv av.k ∧ Says w av.vv av.v := fun i hi => by
      obtain ⟨cs, h1, h2⟩ := hr i (by omega)
      rw [Tryd.cellsAct4] at h1
      obtain ⟨av, rfl, r⟩ := act_of_trod h2
      exact ⟨av, h1, r⟩
    haveI : Inhabited ActV := ⟨⟨0, .slice none 0 0, .slice none 0 0, [], []⟩⟩
    obtain ⟨f, hfr⟩ := Deep.choose_lt (α := ActV) (p := fun i av => w.cells? base (y.add (i * 3)) 3 = some [.int .i64 av.d, av.kv, av.vv] ∧ (-9223372036854775808 ≤ av.d ∧ av.d ≤ 9223372036854775807) ∧ Says w av.kv av.k ∧ Says w av.vv av.v) one
    have hlen : ((List.range len).map f).length = len := by simp
    refine ⟨(List.range len).map f, some y, m, by rw [hlen], by rw [hlen]; exact hl, hm, fun hne => ?_⟩
    have hpos : 0 < len := by
      rcases Nat.eq_zero_or_pos len with e | e
      · exact absurd (by rw [e]; rfl) hne
      · exact e
    obtain ⟨b, off, spot⟩ := y
    have h0 := (World.cells?_some (hfr 0 hpos).1).2.2 0 (by omega)
    have hspot : spot = none := by simpa [Addr.add] using World.cell?_spot h0
    subst hspot
    refine ⟨b, off, rfl, World.block_lt_of_cell? w _ h0, fun j v hv => ?_⟩
    have hj : j < len := by have := (List.getElem?_eq_some_iff.1 hv).1; simpa using this
    have ev : f j = v := by simpa [hj] using hv
    obtain ⟨hc, r⟩ := hfr j hj
    rw [ev] at hc r
    have hcell := (World.cells?_some hc).2.2
    have k0 := hcell 0 (by omega)
    have k1 := hcell 1 (by omega)
    have k2 := hcell 2 (by omega)
    simp only [Addr.add_lit, List.getElem?_cons_zero, List.getElem?_cons_succ, Nat.add_zero] at k0 k1 k2
    exact ⟨k0, k1, k2, r.1, r.2.1, r.2.2⟩
end
end Go.Proofs.YthkeofinamedfaaDoor
