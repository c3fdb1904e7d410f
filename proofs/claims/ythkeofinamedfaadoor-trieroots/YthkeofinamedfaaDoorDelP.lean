/- What Delete leaves. -/
import Derived.Test.YthkeofinamedfaaDoorCutN
import Derived.Test.YthkeofinamedfaaDoorPathP
namespace Go.Proofs.YthkeofinamedfaaDoor
open Go.RowKit
set_option linter.unusedVariables false
set_option maxRecDepth 20000

/-- Where the last but one of some nodes lies. -/
def prevOf {o : Option Nod} {key : List UInt8} (pre : List (Step o key)) : Option Addr := lastOf pre.dropLast

theorem prevOf_snoc {o : Option Nod} {key : List UInt8} (pre : List (Step o key)) (x : Step o key) : prevOf (pre ++ [x]) = lastOf pre := by simp [prevOf]

def atO (o : Option Nod) : Option Addr := o.map fun y => ⟨y.blk, 0, none⟩

theorem prevOf_all {x : Nod} {key : List UInt8} (pre : List (Step (some x) key)) (h : pre.map (·.1) = x.way key) : prevOf pre = atO (x.above key) := by
  have e : prevOf pre = ((pre.map (·.1)).dropLast.getLast?).map fun y => ⟨y.blk, 0, none⟩ := by
    rw [← List.map_dropLast, List.getLast?_map]
    simp [prevOf, lastOf]
  rw [e, h, Nod.way_above]
  rfl

theorem Nod.way_nodup : ∀ {x : Nod}, x.blks.Nodup → ∀ {key : List UInt8}, ∀ y ∈ x.way key, y.blks.Nodup
  | .leaf b kv vv k v, h, key, y, hy => by simp [way] at hy; subst hy; exact h
  | .fork b p l r, h, key, y, hy => by
    have h' := h
    simp only [blks, List.nodup_cons, List.nodup_append] at h'
    simp only [way, List.mem_cons] at hy
    rcases hy with rfl | hy
    · exact h
    · split at hy
      · exact way_nodup h'.2.2.1 y hy
      · exact way_nodup h'.2.1 y hy

/-- WHAT IS LEFT. -/
def DelEnd (tb : Nat) (x : Nod) (key : List UInt8) (w w' : World) : Prop :=
  TreeAt w' tb (x.cutN key) ∧ (∀ b, own tb (x.cutN key) b → own tb (some x) b) ∧ Spares (own tb (some x)) w w'

theorem del_end {tb : Nat} {x : Nod} {key : List UInt8} {w w' : World} (ht : TreeAt w tb (some x)) (hn : (x.tri.near key).1 = key) (hsp : Spares (own tb (some x)) w w')
    (hh : w'.heap[tb]? = some (.cells #[.pointer (topOf (x.cutN key)), .int .i64 ((x.tri.ents.length : Int) - 1)] 69 (0, 0)))
    (hz : ∀ y, x.above key = some y → (∀ b ∈ x.blks, b ≠ y.blk → w'.heap[b]? = w.heap[b]?) ∧ w'.heap[y.blk]? = some (.cells (y.other' key).cells 84 (0, 0))) : DelEnd tb x key w w' := by
  obtain ⟨c1, c2, c3⟩ := Tri.cut_spec x.tri ht.wf key hn
  have hct : triO (x.cutN key) = x.tri.cut key := Nod.cutN_tri x key
  have hb := ht.bytes hsp
  have hlen : ((Tri.entsO (triO (x.cutN key))).length : Int) = (x.tri.ents.length : Int) - 1 := by rw [hct]; omega
  cases ha : x.above key with
  | none =>
    have hc := (Nod.above_none ha).1
    rw [hc] at hh hlen hct
    refine ⟨⟨?_, fun z e => ?_, fun z e => ?_, ?_⟩, ?_, hsp⟩
    · rw [hc]
      rw [show (((Tri.entsO (triO none)).length : Nat) : Int) = (x.tri.ents.length : Int) - 1 from hlen]
      exact hh
    · rw [hc] at e; cases e
    · rw [hc] at e; cases e
    · rw [hc]; trivial
    · rw [hc]
      rintro b (rfl | ⟨z, e, _⟩)
      · exact .inl rfl
      · cases e
  | some y =>
    obtain ⟨h1, h2⟩ := hz y ha
    obtain ⟨z, z1, z2, z3, z4, z5⟩ := Nod.cutN_lies (ht.lies x rfl) (ht.nodup x rfl) hb ha h1 h2
    refine ⟨⟨?_, fun q e => ?_, fun q e => ?_, by rw [hct]; exact c2⟩, ?_, hsp⟩
    · rw [show (((Tri.entsO (triO (x.cutN key))).length : Nat) : Int) = (x.tri.ents.length : Int) - 1 from hlen]
      exact hh
    · rw [z1] at e; cases e; exact z2
    · rw [z1] at e; cases e; exact z4
    · rintro b (rfl | ⟨q, e, hi⟩)
      · exact .inl rfl
      · rw [z1] at e
        cases e
        exact .inr ⟨x, rfl, z5 b hi⟩

theorem del_last {w W W2 : World} {tb D : Nat} {x : Nod} (ht : TreeAt w tb (some x)) (hB : Below w.heap.size w W) (sp : Spares (own tb (some x)) W W2) (hD : w.heap.size ≤ D) (hK : W.heap[D]? = some (.deferred (some []))) :
    W2.heap[D]? = some (.deferred (some [])) ∧ Spares (own tb (some x)) w (W2.putObj D (.deferred none)) ∧ ∀ k, k < w.heap.size → (W2.putObj D (.deferred none)).heap[k]? = W2.heap[k]? := by
  refine ⟨(sp.block D (Array.getElem?_eq_some_iff.1 hK).1 (fun h => by have := ht.lt D h; omega)).trans hK, ?_, fun k hk => World.putObj_heap_other (by omega)⟩
  have h1 : Spares (own tb (some x)) w W2 := (Spares.of_new hB).andThen sp (fun i hi => .inl hi)
  exact h1.andThen (T := fun i => i = D) ⟨rfl, rfl, rfl, by simp, fun k _ hk => World.putObj_heap_other hk⟩ (fun i hi => .inr (by omega))

/-- A node's cells, by their kinds. -/
theorem node_cells {x : Nod} {w : World} (h : x.Lies w) : ∃ a1 n1 c1 a2 n2 c2 m q3 q4, x.cells = #[.slice a1 n1 c1, .slice a2 n2 c2, .int .i64 m, .pointer q3, .pointer q4] := by
  cases x with
  | leaf b kv vv k v =>
    obtain ⟨a1, c1, rfl, _⟩ := h.2.1
    obtain ⟨a2, c2, rfl, _⟩ := h.2.2
    exact ⟨_, _, _, _, _, _, _, _, _, rfl⟩
  | fork b p l r => exact ⟨_, _, _, _, _, _, _, _, _, rfl⟩

theorem cell_set5 (W : World) (yb : Nat) (v0 v1 v2 v3 v4 : Value) (ad : Addr) (h : ad.block ≠ yb) :
    (((((W.setCell ⟨yb, 0, none⟩ v0).setCell ⟨yb, 1, none⟩ v1).setCell ⟨yb, 2, none⟩ v2).setCell ⟨yb, 3, none⟩ v3).setCell ⟨yb, 4, none⟩ v4).cell? ad = W.cell? ad := by
  have e : ∀ (X : World) (j : Nat) (v : Value), (X.setCell ⟨yb, j, none⟩ v).cell? ad = X.cell? ad := fun X j v => World.cell?_of_block (Below.heap_setCell X ⟨yb, j, none⟩ v ad.block h)
  rw [e, e, e, e, e]

theorem spares_set5 (W : World) (b : Nat) (v0 v1 v2 v3 v4 : Value) : Spares (fun i => i = b) W (((((W.setCell ⟨b, 0, none⟩ v0).setCell ⟨b, 1, none⟩ v1).setCell ⟨b, 2, none⟩ v2).setCell ⟨b, 3, none⟩ v3).setCell ⟨b, 4, none⟩ v4) :=
  ((((spares_set W ⟨b, 0, none⟩ v0).andThen (spares_set _ ⟨b, 1, none⟩ v1) (fun i hi => .inl hi)).andThen (spares_set _ ⟨b, 2, none⟩ v2) (fun i hi => .inl hi)).andThen (spares_set _ ⟨b, 3, none⟩ v3) (fun i hi => .inl hi)).andThen (spares_set _ ⟨b, 4, none⟩ v4) (fun i hi => .inl hi)

section
variable {P : Program} {md : Region.Mode} {ops : Array Oper} {Q : Exit → Act → World → Prop} {S : World → Prop} {fuel : Nat} {listed : Array Bool} {a : Act} {w : World} {i k0 : Nat} {oi : Oper}

/-- Nothing but the common way out. -/
def Only (Q : Exit → Act → World → Prop) : Exit → Act → World → Prop
  | .normal, a, w => Q .normal a w
  | _, _, _ => False

theorem last_region {id : Nat} (S : World → Prop) (k0 : Nat) (hm : P.follows .mixedOrders = true) (h : wpAnyE P .any ops (Only Q) S k0 ops.size (Array.replicate ops.size false) a w.drew) : (Code.region id ops true).wp P Q a w :=
  wp_mono (wp_region_any hm (wpAny_of_E _ _ _ _ h)) (fun e a w h => by cases e <;> first | exact h | exact h.elim)

theorem takeE_loadrow (hr : Region.ready md ops listed = [i]) (hi : ops[i]? = some oi) (gi : oi.guard = none) (ty : TypeId) (x : Operand) (ki : oi.op = .load ty x)
    (g : Nat) (hx : a.eval x = .pointer (some ⟨g, 0, none⟩)) (t : TypeId) (cs : Array Value) (fr : Nat × Nat) (d : TypeDesc) (hg : w.heap[g]? = some (.cells cs t fr))
    (hu : P.underlying ty = some d) (hd : (match d with | .struct _ | .array _ _ => true | _ => false) = true) (hs : (P.info? ty).map (·.size) = some cs.size) (hS : S w)
    (h : wpAnyE P md ops Q S k0 fuel (listed.setIfInBounds i true) (a.put oi.dst (.agg cs)) w) : wpAnyE P md ops Q S k0 (fuel + 1) listed a w :=
  takeE_one hr hi gi (wp_load_row ty x ki g hx t cs fr d hg hu hd hs ⟨.inl hS, h⟩)

theorem takeE_storerow (hr : Region.ready md ops listed = [i]) (hi : ops[i]? = some oi) (gi : oi.guard = none) (ty : TypeId) (x y : Operand) (ki : oi.op = .store ty x y)
    (g : Nat) (cells : Array Value) (hx : a.eval x = .pointer (some ⟨g, 0, none⟩)) (hy : a.eval y = .agg cells) (t : TypeId) (old : Array Value) (hg : w.heap[g]? = some (.cells old t (0, 0))) (hs : (P.info? ty).map (·.size) = some cells.size)
    (hold : old.size = cells.size) (h1 : cells.all (·.oneCell') = true) (hS : S (w.setRow g cells) ∨ i = k0)
    (h : wpAnyE P md ops Q S k0 fuel (listed.setIfInBounds i true) (a.put oi.dst undef) (w.setRow g cells)) : wpAnyE P md ops Q S k0 (fuel + 1) listed a w :=
  takeE_one hr hi gi (wp_store_row ty x y ki g cells hx hy t old hg hs hold h1 ⟨hS, h⟩)
end

theorem Tryd.infoNode : (Tryd.prog.info? 84).map (·.size) = some 5 := by kernel_rfl
end Go.Proofs.YthkeofinamedfaaDoor
