/- What the readings give the walks: a digest, rows with their number, the package's tables. -/
import Derived.Test.YtmafaioohiaenaaDoorRows
import Derived.Test.YtmafaioohiaenaaDoorOpen
import Derived.Test.YtmafaioohiaenaaDoorOfD
import Derived.WideKeyArr2
import Derived.Handed
import Derived.LaidLaws
import Derived.Lib.LaidU8
import Derived.Test.YtmafaioohiaenaaDoorNode
import Derived.ChangeSame
import Derived.Test.YtmafaioohiaenaaDoorMadeF
namespace Go.Proofs.YtmafaioohiaenaaDoor
open Go.ChangeShapes Go.WideShapes Go.RowKit
set_option linter.unusedVariables false
set_option maxRecDepth 20000

section
variable {H : Type} {enc : TypeId × Value → H} {P : Program} {w : World} {base : Nat} {held : Bool}

theorem lists_len {t e q : TypeId} {fuel : Nat} {a : Option Addr} {len cap : Nat} {x : DataW H × List MemPlace} (ht : P.underlying t = some (.slice e)) (he : P.underlying e = some (.slice q)) (hq : P.underlying q = some (.int .u8))
    (ce : P.cellsOf e = 1) (cq : P.cellsOf q = 1) (h : DataW.trod enc P w base (fun _ => true) held fuel t [.slice a len cap] = some x) : (a = none → cap = 0) ∧ (len = 0 ∨ ∃ el sp, x.1 = .slice el sp ∧ len ≤ el.length + sp.length) := by
  rcases Deep.open_int_rows ht he hq ce cq h with ⟨hcs, _⟩ | ⟨y, l, c, A, L, C, Z, hcs, _, hl, hm, hx, hr⟩
  · simp only [List.cons.injEq, Value.slice.injEq, and_true] at hcs
    obtain ⟨rfl, rfl, rfl⟩ := hcs
    exact ⟨fun _ => rfl, .inl rfl⟩
  · simp only [List.cons.injEq, Value.slice.injEq, and_true] at hcs
    obtain ⟨rfl, rfl, rfl⟩ := hcs
    refine ⟨fun e => ?_, .inr ⟨_, _, by rw [hx], by simp⟩⟩
    cases e
end

theorem mapM_ints {H : Type} {enc : TypeId × Value → H} {P : Program} {w : World} {base : Nat} {sp : Nat → Bool} {held : Bool} {e : TypeId} {k : IntKind} (he : P.underlying e = some (.int k)) {m : Nat} {cs : List Value} : ∀ (L : List Nat) (xs : List (DataW H × List MemPlace)),
    L.mapM (fun i => DataW.trod enc P w base sp held m e ((cs.drop (i * 1)).take 1)) = some xs →
    ∀ i ∈ L, ∃ z : Int, cs[i]? = some (.int k z) ∧ (Lit.int k z).wf = true
  | [], xs, h => fun i hi => by simp at hi
  | j :: L, xs, h => by
    rw [List.mapM_cons] at h
    simp only [bind, Option.bind_eq_some_iff, pure, Option.some.injEq] at h
    obtain ⟨y, hy, ys, hys, rfl⟩ := h
    intro i hi
    rcases List.mem_cons.1 hi with rfl | hi
    · obtain ⟨a, ea, rfl, wa⟩ := DataW.trod_int he hy
      refine ⟨a, ?_, wa⟩
      have := congrArg (·[0]?) ea
      simpa [List.getElem?_take, List.getElem?_drop] using this
    · exact mapM_ints he L ys hys i hi

def byteIn : Option Value → UInt8
  | some (.int _ z) => UInt8.ofNat z.toNat
  | _ => 0

theorem Tryd.sumKey : WideMaps.ArrKey Tryd.prog 23 5 32 := ⟨Tryd.underlying23, by kernel_rfl, by kernel_rfl, by kernel_rfl⟩

/-- A digest that came in. -/
theorem open_sum {H : Type} {enc : TypeId × Value → H} {W : World} {b0 : Nat} {v : Value} {base : Nat} {sp : Nat → Bool} {held : Bool} {d : DataW H} {ps : List MemPlace} (ho : Value.okWide Tryd.prog W .any b0 23 v) (hd : DataW.Trod enc Tryd.prog W base sp held 23 v d ps) :
    ∃ bs : List UInt8, bs.length = 32 ∧ v = .agg (bs.map by8).toArray := by
  obtain ⟨xs, rfl, hn⟩ := WideMaps.okWide_arr Tryd.sumKey ho
  obtain ⟨fuel, hf⟩ := hd
  cases fuel with
  | zero => simp [DataW.trod] at hf
  | succ m =>
    rw [DataW.trod_step] at hf
    unfold DataW.trodStep at hf
    simp only [Tryd.underlying23, Value.cells] at hf
    rw [if_pos (by rw [Tryd.sumKey.size]; simpa using hn)] at hf
    simp only [Option.map_eq_some_iff] at hf
    obtain ⟨ys, hy, e1⟩ := hf
    rw [Tryd.sumKey.one] at hy
    have hall := mapM_ints Tryd.underlying5 _ ys hy
    refine ⟨(List.range 32).map fun i => byteIn (xs.toList[i]?), by simp, ?_⟩
    refine congrArg Value.agg (Array.ext' (List.ext_getElem? fun i => ?_))
    by_cases hi : i < 32
    · obtain ⟨z, h1, h2⟩ := hall i (by simpa using hi)
      have hz : 0 ≤ z ∧ z ≤ 255 := by simpa [Lit.wf, IntKind.min, IntKind.max, IntKind.signed, IntKind.bits] using h2
      rw [h1]
      simp only [List.getElem?_map, List.getElem?_range hi, Option.map_some, h1, by8, byteIn]
      refine congrArg (fun x : Int => some (Value.int .u8 x)) ?_
      rw [UInt8.toNat_ofNat']
      omega
    · rw [List.getElem?_eq_none (by rw [Array.length_toList]; omega), List.getElem?_eq_none (by simp; omega)]

/-- An array of words that reads as these numbers holds them. -/
theorem words_of_trod {H : Type} {enc : TypeId × Value → H} {P : Program} {w : World} {base : Nat} {sp : Nat → Bool} {held : Bool} {t e : TypeId} {n fuel : Nat} {cs : List Value} {ns : List Nat} {p : List MemPlace} (ht : P.underlying t = some (.array n e)) (he : P.underlying e = some (.int .u32)) (hc : P.cellsOf e = 1) (hn : P.cellsOf t = n) (hl : ns.length = n)
    (h : DataW.trod enc P w base sp held fuel t cs = some (.agg (ns.map fun z : Nat => .lit (.int .u32 (z : Int))), p)) : cs = ns.map w32 := by
  have hcl : cs.length = n := by
    cases fuel with
    | zero => simp [DataW.trod] at h
    | succ m =>
      simp only [DataW.trod, ht] at h
      split at h
      · rename_i h'; rw [hn] at h'; exact h'
      · cases h
  apply List.ext_getElem?
  intro i
  by_cases hi : i < n
  · obtain ⟨f2, d, q, hd, hf⟩ := Lib.array_elem ht h i hi
    rw [hc] at hf
    obtain ⟨z, ez, ed, _⟩ := DataW.trod_int he hf
    simp only [Prod.mk.injEq] at ed
    obtain ⟨rfl, _⟩ := ed
    have h1 : cs[i]? = some (.int .u32 z) := by
      have := congrArg (·[0]?) ez
      simpa [List.getElem?_take, List.getElem?_drop] using this
    rw [List.getElem?_map, List.getElem?_eq_getElem (by omega)] at hd
    simp only [Option.map_some, Option.some.injEq, DataW.lit.injEq, Lit.int.injEq, true_and] at hd
    rw [h1, List.getElem?_map, List.getElem?_eq_getElem (by omega), ← hd]
    rfl
  · rw [List.getElem?_eq_none (by omega), List.getElem?_eq_none (by simp; omega)]

theorem Tryd.sq : Tryd.prog.globalNamed "vestry/digest.squareRoots" = some 0 := by kernel_rfl
theorem Tryd.cb : Tryd.prog.globalNamed "vestry/digest.cubeRoots" = some 1 := by kernel_rfl
theorem Tryd.sqType : (Tryd.prog.globals[0]?).map (·.type) = some 112 := by kernel_rfl
theorem Tryd.cbType : (Tryd.prog.globals[1]?).map (·.type) = some 142 := by kernel_rfl

def startList : List Nat := [0x6a09e667, 0xbb67ae85, 0x3c6ef372, 0xa54ff53a, 0x510e527f, 0x9b05688c, 0x1f83d9ab, 0x5be0cd19]

abbrev laid2 : List (String × DataW Unit) := [("vestry/digest.squareRoots", Rows.laid_vestry_digest_squareRoots), ("vestry/digest.cubeRoots", Rows.laid_vestry_digest_cubeRoots)]

/-- WHAT THE CONDITION GIVES A WALK. -/
theorem tables_of_laid {W : World} (h : laidMetH Tryd.prog laid2 W) : Tables W := by
  have h' : laidMet Tryd.prog laid2 W := h
  obtain ⟨ps, ⟨g0, t0, cs0, f0, p0, q0, hg0, ht0, hv0, hd0, ⟨g1, t1, cs1, f1, p1, q1, hg1, ht1, hv1, hd1, hq1, e1⟩, e0⟩, hnd, hrows⟩ := h'
  obtain rfl := Option.some.inj (Tryd.sq.symm.trans hg0)
  obtain rfl := Option.some.inj (Tryd.cb.symm.trans hg1)
  obtain rfl := Option.some.inj (Tryd.sqType.symm.trans ht0)
  obtain rfl := Option.some.inj (Tryd.cbType.symm.trans ht1)
  have k0 : cs0.toList = startList.map w32 := words_of_trod (ns := startList) Tryd.underlying112 Tryd.underlying110 (by kernel_rfl) (by kernel_rfl) (by kernel_rfl) hd0
  have k1 : cs1.toList = cubes.map w32 := words_of_trod (ns := cubes) Tryd.underlying142 Tryd.underlying110 (by kernel_rfl) (by kernel_rfl) (by kernel_rfl) hd1
  have s0 : cs0.size = 8 := by rw [← Array.length_toList, k0]; rfl
  have s1 : cs1.size = 64 := by rw [← Array.length_toList, k1]; simpa using cubes_length
  have hq1' : q1 = [] := hq1
  subst hq1'
  subst e1
  subst e0
  obtain ⟨c0, u0, hb0⟩ := (hrows 0 0 (by simp [MemPlace.row, s0])).1
  obtain ⟨c1, u1, hb1⟩ := (hrows 1 0 (by simp [MemPlace.row, s1])).1
  have v0 : c0 = cs0 := by
    unfold World.var? at hv0
    rw [Tryd.sq] at hv0
    simpa [hb0] using hv0
  have v1 : c1 = cs1 := by
    unfold World.var? at hv1
    rw [Tryd.cb] at hv1
    simpa [hb1] using hv1
  refine ⟨u0, u1, ?_, ?_⟩
  · rw [hb0, v0]
    congr 2
    exact Array.ext' (by rw [k0]; rfl)
  · rw [hb1, v1]
    congr 2
    exact Array.ext' (by rw [k1])

/-- A world that meets the condition. -/
noncomputable def laidWorld (os : Os) : World :=
  let w0 := World.holding Tryd.prog os ⟨#[], #[], []⟩
  { w0 with heap := (w0.heap.modify 0 fun
      | .cells _ t frozen => .cells (startList.map w32).toArray t frozen
      | o => o).modify 1 fun
      | .cells _ t frozen => .cells (cubes.map w32).toArray t frozen
      | o => o }

theorem laidWorld_met (os : Os) (args : Array Value) : laidMetH Tryd.prog laid2 ((laidWorld os).forCall (fun _ _ => 0) ⟨#[], args, []⟩).memory :=
  laidMet_of_run' 8 (by kernel_rfl) (by kernel_rfl)
end Go.Proofs.YtmafaioohiaenaaDoor

/- How arguments that are entries are read. -/

namespace Go.Proofs.YtmafaioohiaenaaDoor
open Go.RowKit Go.ChangeShapes Go.WideShapes
set_option linter.unusedVariables false
set_option maxRecDepth 20000

theorem Tryd.cellsEntry : Tryd.prog.cellsOf 26 = 2 := by kernel_rfl
theorem Tryd.cellsBytesE : Tryd.prog.cellsOf 24 = 1 := by kernel_rfl
theorem Tryd.cellsU8E : Tryd.prog.cellsOf 5 = 1 := by kernel_rfl

section
variable {H : Type} {enc : TypeId × Value → H} {w : World} {base : Nat} {held : Bool}

theorem bytes_of_trod {fuel : Nat} {c : Value} {x : DataW H × List MemPlace} (f : DataW.trod enc Tryd.prog w base (fun _ => true) held fuel 24 [c] = some x) : ∃ bs, Says w c bs := by
  obtain ⟨va, vl, vc, rfl⟩ : ∃ va vl vc, c = .slice va vl vc := by
    rcases open_ints Tryd.underlying24 Tryd.underlying5 Tryd.cellsU8E f with ⟨hcs, _⟩ | ⟨y, l, c, zs, hcs, _⟩
    · simp only [List.cons.injEq, and_true] at hcs
      exact ⟨_, _, _, hcs⟩
    · simp only [List.cons.injEq, and_true] at hcs
      exact ⟨_, _, _, hcs⟩
  obtain ⟨bs, sh, _⟩ := shows_of_trod Tryd.underlying24 Tryd.underlying5 Tryd.cellsU8E f
  exact ⟨bs, sh⟩

theorem entry_of_trod {fuel : Nat} {cs : List Value} {x : DataW H × List MemPlace} (h : DataW.trod enc Tryd.prog w base (fun _ => true) held fuel 26 cs = some x) :
    ∃ ka va k v, cs = [ka, va] ∧ Says w ka k ∧ Says w va v := by
  obtain ⟨y0, y1, n, rfl, hl, f0, f1⟩ := trod_struct2 Tryd.underlying26 h
  rw [Tryd.cellsEntry] at hl
  match cs, hl with
  | [c0, c1], _ =>
    change DataW.trod enc Tryd.prog w base (fun _ => true) held n 24 (([c0, c1].drop 0).take (Tryd.prog.cellsOf 24)) = some y0 at f0
    change DataW.trod enc Tryd.prog w base (fun _ => true) held n 24 (([c0, c1].drop 1).take (Tryd.prog.cellsOf 24)) = some y1 at f1
    rw [Tryd.cellsBytesE] at f0 f1
    obtain ⟨k, hk⟩ := bytes_of_trod f0
    obtain ⟨v, hv⟩ := bytes_of_trod f1
    exact ⟨c0, c1, k, v, rfl, hk, hv⟩

/-- An entry that came in. -/
theorem open_entry {b0 : Nat} {v : Value} {d : DataW H} {ps : List MemPlace} (ho : Value.okWide Tryd.prog w .any b0 26 v) (hd : DataW.Trod enc Tryd.prog w base (fun _ => true) held 26 v d ps) :
    ∃ ka va k x, v = .agg #[ka, va] ∧ Says w ka k ∧ Says w va x := by
  obtain ⟨cs, rfl, hn⟩ := okWide_struct Tryd.underlying26 ho
  obtain ⟨fuel, hf⟩ := hd
  obtain ⟨ka, va, k, x, he, hk, hv⟩ := entry_of_trod hf
  have : cs.toList = [ka, va] := he
  exact ⟨ka, va, k, x, by rw [← Array.toArray_toList (xs := cs), this], hk, hv⟩
end
end Go.Proofs.YtmafaioohiaenaaDoor

/- How an argument that is a slice of the trie's acts is read. -/

namespace Go.Proofs.YtmafaioohiaenaaDoor
open Go.RowKit Go.ChangeShapes Go.WideShapes
set_option linter.unusedVariables false
set_option maxRecDepth 20000

section
variable {H : Type} {enc : TypeId × Value → H} {w : World} {base : Nat} {held : Bool}

end
end Go.Proofs.YtmafaioohiaenaaDoor
