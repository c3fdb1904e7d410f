/- A tree of nodes without the leaf to which a key leads: what it is, and where it lies. -/
import Derived.Test.YtmafaioohiaenaaDoorPutF
import Derived.Test.YtmafaioohiaenaaDoorPathF
namespace Go.Proofs.YtmafaioohiaenaaDoor
open Go.RowKit
set_option linter.unusedVariables false
set_option maxRecDepth 20000

namespace Nod
theorem move_tri (nb : Nat) (x : Nod) : (x.move nb).tri = x.tri := by cases x <;> rfl

/-- The other side takes the place of the last fork. -/
def cutN : Nod → List UInt8 → Option Nod
  | leaf _ _ _ _ _, _ => none
  | fork b p l r, key => if bit key p then (match r.cutN key with | none => some (l.move b) | some r' => some (fork b p l r')) else (match l.cutN key with | none => some (r.move b) | some l' => some (fork b p l' r))

/-- The last fork of a way. -/
def above : Nod → List UInt8 → Option Nod
  | leaf _ _ _ _ _, _ => none
  | fork b p l r, key => if bit key p then (match r.above key with | none => some (fork b p l r) | some y => some y) else (match l.above key with | none => some (fork b p l r) | some y => some y)

theorem cutN_tri : ∀ (x : Nod) (key : List UInt8), (x.cutN key).map tri = x.tri.cut key
  | leaf b kv vv k v, key => rfl
  | fork b p l r, key => by
    have hl := cutN_tri l key
    have hr := cutN_tri r key
    simp only [cutN, tri, Tri.cut]
    cases bit key p with
    | true =>
      simp only [if_true]
      cases h : r.cutN key <;> rw [h] at hr <;> simp only [Option.map_none, Option.map_some] at hr <;> rw [← hr] <;> simp [tri, move_tri]
    | false =>
      simp only [Bool.false_eq_true, if_false]
      cases h : l.cutN key <;> rw [h] at hl <;> simp only [Option.map_none, Option.map_some] at hl <;> rw [← hl] <;> simp [tri, move_tri]

theorem above_none : ∀ {x : Nod} {key : List UInt8}, x.above key = none → x.cutN key = none ∧ ∃ b kv vv k v, x = leaf b kv vv k v
  | leaf b kv vv k v, key, h => ⟨rfl, b, kv, vv, k, v, rfl⟩
  | fork b p l r, key, h => by
    simp only [above] at h
    split at h <;> split at h <;> cases h

theorem way_above : ∀ (x : Nod) (key : List UInt8), (x.way key).dropLast.getLast? = x.above key
  | leaf b kv vv k v, key => rfl
  | fork b p l r, key => by
    have hl := way_above l key
    have hr := way_above r key
    simp only [way, above]
    split
    · rw [List.dropLast_cons_of_ne_nil (way_ne r key), List.getLast?_cons, hr]
      cases r.above key <;> rfl
    · rw [List.dropLast_cons_of_ne_nil (way_ne l key), List.getLast?_cons, hl]
      cases l.above key <;> rfl

theorem above_way {x y : Nod} {key : List UInt8} (h : x.above key = some y) : y ∈ x.way key := by
  rw [← way_above] at h
  exact List.dropLast_subset _ (List.mem_of_getLast? h)

theorem above_fork : ∀ {x y : Nod} {key : List UInt8}, x.above key = some y → ∃ b p l r, y = fork b p l r
  | leaf b kv vv k v, y, key, h => by cases h
  | fork b p l r, y, key, h => by
    simp only [above] at h
    split at h
    · split at h
      · cases h; exact ⟨b, p, l, r, rfl⟩
      · rename_i y' hy; cases h; exact above_fork hy
    · split at h
      · cases h; exact ⟨b, p, l, r, rfl⟩
      · rename_i y' hy; cases h; exact above_fork hy

theorem move_lies2 {x : Nod} {w w' : World} {nb : Nat} (h : x.Lies w) (hb : Bytes w w') (hn : w'.heap[nb]? = some (.cells x.cells 98 (0, 0))) (hk : ∀ i ∈ x.blks, i ≠ x.blk → w'.heap[i]? = w.heap[i]?) (hd : x.blks.Nodup) : (x.move nb).Lies w' := by
  cases x with
  | leaf b kv vv k v => exact ⟨hn, h.2.1.bytes hb, h.2.2.bytes hb⟩
  | fork b p l r =>
    simp only [blks, List.nodup_cons, List.mem_append, not_or] at hd
    exact ⟨hn, h.2.1.keeps hb fun i hi => hk i (by simp [blks, hi]) (fun e => hd.1.1 (by rw [← show i = b from e]; exact hi)), h.2.2.keeps hb fun i hi => hk i (by simp [blks, hi]) (fun e => hd.1.2 (by rw [← show i = b from e]; exact hi))⟩

theorem move_nodup {x : Nod} {nb : Nat} (hd : x.blks.Nodup) (hn : nb ∉ x.blks) : (x.move nb).blks.Nodup := by
  cases x with
  | leaf b kv vv k v => simp [move, blks]
  | fork b p l r =>
    simp only [blks, List.nodup_cons, List.mem_append, List.mem_cons, not_or] at hd hn ⊢
    simp only [move, blks, List.nodup_cons, List.mem_append, not_or]
    exact ⟨hn.2, hd.2⟩

theorem move_sub {x : Nod} {nb i : Nat} (h : i ∈ (x.move nb).blks) : i = nb ∨ i ∈ x.blks := by
  cases x with
  | leaf b kv vv k v => simp [move, blks] at h; exact .inl h
  | fork b p l r =>
    simp only [move, blks, List.mem_cons, List.mem_append] at h ⊢
    rcases h with h | h
    · exact .inl h
    · exact .inr (.inr h)

/-- The side on which a key does not lead. -/
def other' (key : List UInt8) : Nod → Nod
  | leaf b kv vv k v => leaf b kv vv k v
  | fork _ p l r => if bit key p then l else r

theorem cutN_lies : ∀ {x y : Nod} {w w' : World} {key : List UInt8}, x.Lies w → x.blks.Nodup → Bytes w w' → x.above key = some y →
    (∀ b ∈ x.blks, b ≠ y.blk → w'.heap[b]? = w.heap[b]?) → w'.heap[y.blk]? = some (.cells (y.other' key).cells 98 (0, 0)) →
    ∃ z, x.cutN key = some z ∧ z.Lies w' ∧ z.blk = x.blk ∧ z.blks.Nodup ∧ ∀ i ∈ z.blks, i ∈ x.blks
  | leaf b kv vv k v, y, w, w', key, hx, hd, hb, ha, hk, hy => by cases ha
  | fork b p l r, y, w, w', key, hx, hd, hb, ha, hk, hy => by
    simp only [blks, List.nodup_cons, List.mem_append, not_or, List.nodup_append] at hd
    obtain ⟨⟨hb1, hb2⟩, hdl, hdr, hdd⟩ := hd
    cases hbit : bit key p with
    | true =>
      simp only [above, hbit, if_true] at ha
      simp only [cutN, hbit, if_true]
      cases hra : r.above key with
      | none =>
        rw [hra] at ha
        cases ha
        rw [(above_none hra).1]
        simp only [other', hbit, if_true] at hy
        refine ⟨_, rfl, move_lies2 hx.2.1 hb hy (fun i hi _ => hk i (by simp [blks, hi]) (fun e => hb1 (by rw [← show i = b from e]; exact hi))) hdl, move_blk _ _, move_nodup hdl hb1, fun i hi => ?_⟩
        rcases move_sub hi with h | h
        · simp [blks, h]
        · simp [blks, h]
      | some y' =>
        rw [hra] at ha
        cases ha
        have hym : y.blk ∈ r.blks := way_blks y (above_way hra) _ y.blk_mem
        obtain ⟨z, h1, h2, h3, h4, h5⟩ := cutN_lies hx.2.2 hdr hb hra (fun i hi => hk i (by simp [blks, hi])) hy
        rw [h1]
        refine ⟨_, rfl, ⟨?_, hx.2.1.keeps hb fun i hi => hk i (by simp [blks, hi]) (fun e => hdd i hi _ hym e), h2⟩, rfl, ?_, fun i hi => ?_⟩
        · rw [hk b (by simp [blks]) (fun e => hb2 (by rw [e]; exact hym))]
          have := hx.1
          simp only [at', h3] at this ⊢
          exact this
        · simp only [blks, List.nodup_cons, List.mem_append, not_or, List.nodup_append]
          exact ⟨⟨hb1, fun h => hb2 (h5 _ h)⟩, hdl, h4, fun i hi j hj => hdd i hi j (h5 j hj)⟩
        · simp only [blks, List.mem_cons, List.mem_append] at hi ⊢
          rcases hi with h | h | h
          · exact .inl h
          · exact .inr (.inl h)
          · exact .inr (.inr (h5 i h))
    | false =>
      simp only [above, hbit, Bool.false_eq_true, if_false] at ha
      simp only [cutN, hbit, Bool.false_eq_true, if_false]
      cases hla : l.above key with
      | none =>
        rw [hla] at ha
        cases ha
        rw [(above_none hla).1]
        simp only [other', hbit, Bool.false_eq_true, if_false] at hy
        refine ⟨_, rfl, move_lies2 hx.2.2 hb hy (fun i hi _ => hk i (by simp [blks, hi]) (fun e => hb2 (by rw [← show i = b from e]; exact hi))) hdr, move_blk _ _, move_nodup hdr hb2, fun i hi => ?_⟩
        rcases move_sub hi with h | h
        · simp [blks, h]
        · simp [blks, h]
      | some y' =>
        rw [hla] at ha
        cases ha
        have hym : y.blk ∈ l.blks := way_blks y (above_way hla) _ y.blk_mem
        obtain ⟨z, h1, h2, h3, h4, h5⟩ := cutN_lies hx.2.1 hdl hb hla (fun i hi => hk i (by simp [blks, hi])) hy
        rw [h1]
        refine ⟨_, rfl, ⟨?_, h2, hx.2.2.keeps hb fun i hi => hk i (by simp [blks, hi]) (fun e => hdd _ hym i hi e.symm)⟩, rfl, ?_, fun i hi => ?_⟩
        · rw [hk b (by simp [blks]) (fun e => hb1 (by rw [e]; exact hym))]
          have := hx.1
          simp only [at', h3] at this ⊢
          exact this
        · simp only [blks, List.nodup_cons, List.mem_append, not_or, List.nodup_append]
          exact ⟨⟨fun h => hb1 (h5 _ h), hb2⟩, h4, hdr, fun i hi j hj => hdd i (h5 i hi) j hj⟩
        · simp only [blks, List.mem_cons, List.mem_append] at hi ⊢
          rcases hi with h | h | h
          · exact .inl h
          · exact .inr (.inl (h5 i h))
          · exact .inr (.inr h)

theorem cutN_blk : ∀ {x z : Nod} {key : List UInt8}, x.cutN key = some z → z.blk = x.blk
  | leaf b kv vv k v, z, key, h => by cases h
  | fork b p l r, z, key, h => by
    simp only [cutN] at h
    split at h <;> split at h <;> cases h <;> first | exact move_blk _ _ | rfl
end Nod

theorem Nod.cut_top {x y : Nod} {key : List UInt8} (h : x.above key = some y) : topOf (x.cutN key) = topOf (some x) := by
  cases hc : x.cutN key with
  | none =>
    cases x with
    | leaf b kv vv k v => cases h
    | fork b p l r =>
      simp only [Nod.cutN] at hc
      split at hc <;> split at hc <;> cases hc
  | some z => simp only [topOf, Nod.cutN_blk hc]
end Go.Proofs.YtmafaioohiaenaaDoor

/- What Delete leaves. -/

namespace Go.Proofs.YtmafaioohiaenaaDoor
open Go.RowKit
set_option linter.unusedVariables false
set_option maxRecDepth 20000

/-- Where the last but one of some nodes lies. -/
def prevOf {o : Option Nod} {key : List UInt8} (pre : List (Step o key)) : Option Addr := lastOf pre.dropLast

theorem prevOf_snoc {o : Option Nod} {key : List UInt8} (pre : List (Step o key)) (x : Step o key) : prevOf (pre ++ [x]) = lastOf pre := by simp [prevOf]

def atO (o : Option Nod) : Option Addr := o.map fun y => ⟨y.blk, 0, none⟩

theorem prevOf_all {x : Nod} {key : List UInt8} (pre : List (Step (some x) key)) (h : pre.map (·.1) = x.way key) : prevOf pre = atO (x.above key) := by
  have e : prevOf pre = ((pre.map (·.1)).dropLast.getLast?).map fun y => ⟨y.blk, 0, none⟩ := by
    rw [← List.map_dropLast, List.getLast?_map]
    simp [prevOf, lastOf]
  rw [e, h, Nod.way_above]
  rfl

theorem Nod.way_nodup : ∀ {x : Nod}, x.blks.Nodup → ∀ {key : List UInt8}, ∀ y ∈ x.way key, y.blks.Nodup
  | .leaf b kv vv k v, h, key, y, hy => by simp [way] at hy; subst hy; exact h
  | .fork b p l r, h, key, y, hy => by
    have h' := h
    simp only [blks, List.nodup_cons, List.nodup_append] at h'
    simp only [way, List.mem_cons] at hy
    rcases hy with rfl | hy
    · exact h
    · split at hy
      · exact way_nodup h'.2.2.1 y hy
      · exact way_nodup h'.2.1 y hy

/-- WHAT IS LEFT. -/
def DelEnd (tb : Nat) (x : Nod) (key : List UInt8) (w w' : World) : Prop :=
  TreeAt w' tb (x.cutN key) ∧ (∀ b, own tb (x.cutN key) b → own tb (some x) b) ∧ Spares (own tb (some x)) w w'

theorem del_end {tb : Nat} {x : Nod} {key : List UInt8} {w w' : World} (ht : TreeAt w tb (some x)) (hn : (x.tri.near key).1 = key) (hsp : Spares (own tb (some x)) w w')
    (hh : w'.heap[tb]? = some (.cells #[.pointer (topOf (x.cutN key)), .int .i64 ((x.tri.ents.length : Int) - 1)] 101 (0, 0)))
    (hz : ∀ y, x.above key = some y → (∀ b ∈ x.blks, b ≠ y.blk → w'.heap[b]? = w.heap[b]?) ∧ w'.heap[y.blk]? = some (.cells (y.other' key).cells 98 (0, 0))) : DelEnd tb x key w w' := by
  obtain ⟨c1, c2, c3⟩ := Tri.cut_spec x.tri ht.wf key hn
  have hct : triO (x.cutN key) = x.tri.cut key := Nod.cutN_tri x key
  have hb := ht.bytes hsp
  have hlen : ((Tri.entsO (triO (x.cutN key))).length : Int) = (x.tri.ents.length : Int) - 1 := by rw [hct]; omega
  cases ha : x.above key with
  | none =>
    have hc := (Nod.above_none ha).1
    rw [hc] at hh hlen hct
    refine ⟨⟨?_, fun z e => ?_, fun z e => ?_, ?_⟩, ?_, hsp⟩
    · rw [hc]
      rw [show (((Tri.entsO (triO none)).length : Nat) : Int) = (x.tri.ents.length : Int) - 1 from hlen]
      exact hh
    · rw [hc] at e; cases e
    · rw [hc] at e; cases e
    · rw [hc]; trivial
    · rw [hc]
      rintro b (rfl | ⟨z, e, _⟩)
      · exact .inl rfl
      · cases e
  | some y =>
    obtain ⟨h1, h2⟩ := hz y ha
    obtain ⟨z, z1, z2, z3, z4, z5⟩ := Nod.cutN_lies (ht.lies x rfl) (ht.nodup x rfl) hb ha h1 h2
    refine ⟨⟨?_, fun q e => ?_, fun q e => ?_, by rw [hct]; exact c2⟩, ?_, hsp⟩
    · rw [show (((Tri.entsO (triO (x.cutN key))).length : Nat) : Int) = (x.tri.ents.length : Int) - 1 from hlen]
      exact hh
    · rw [z1] at e; cases e; exact z2
    · rw [z1] at e; cases e; exact z4
    · rintro b (rfl | ⟨q, e, hi⟩)
      · exact .inl rfl
      · rw [z1] at e
        cases e
        exact .inr ⟨x, rfl, z5 b hi⟩

theorem del_last {w W W2 : World} {tb D : Nat} {x : Nod} (ht : TreeAt w tb (some x)) (hB : Below w.heap.size w W) (sp : Spares (own tb (some x)) W W2) (hD : w.heap.size ≤ D) (hK : W.heap[D]? = some (.deferred (some []))) :
    W2.heap[D]? = some (.deferred (some [])) ∧ Spares (own tb (some x)) w (W2.putObj D (.deferred none)) ∧ ∀ k, k < w.heap.size → (W2.putObj D (.deferred none)).heap[k]? = W2.heap[k]? := by
  refine ⟨(sp.block D (Array.getElem?_eq_some_iff.1 hK).1 (fun h => by have := ht.lt D h; omega)).trans hK, ?_, fun k hk => World.putObj_heap_other (by omega)⟩
  have h1 : Spares (own tb (some x)) w W2 := (Spares.of_new hB).andThen sp (fun i hi => .inl hi)
  exact h1.andThen (T := fun i => i = D) ⟨rfl, rfl, rfl, by simp, fun k _ hk => World.putObj_heap_other hk⟩ (fun i hi => .inr (by omega))

/-- A node's cells, by their kinds. -/
theorem node_cells {x : Nod} {w : World} (h : x.Lies w) : ∃ a1 n1 c1 a2 n2 c2 m q3 q4, x.cells = #[.slice a1 n1 c1, .slice a2 n2 c2, .int .i64 m, .pointer q3, .pointer q4] := by
  cases x with
  | leaf b kv vv k v =>
    obtain ⟨a1, c1, rfl, _⟩ := h.2.1
    obtain ⟨a2, c2, rfl, _⟩ := h.2.2
    exact ⟨_, _, _, _, _, _, _, _, _, rfl⟩
  | fork b p l r => exact ⟨_, _, _, _, _, _, _, _, _, rfl⟩

theorem cell_set5 (W : World) (yb : Nat) (v0 v1 v2 v3 v4 : Value) (ad : Addr) (h : ad.block ≠ yb) :
    (((((W.setCell ⟨yb, 0, none⟩ v0).setCell ⟨yb, 1, none⟩ v1).setCell ⟨yb, 2, none⟩ v2).setCell ⟨yb, 3, none⟩ v3).setCell ⟨yb, 4, none⟩ v4).cell? ad = W.cell? ad := by
  have e : ∀ (X : World) (j : Nat) (v : Value), (X.setCell ⟨yb, j, none⟩ v).cell? ad = X.cell? ad := fun X j v => World.cell?_of_block (Below.heap_setCell X ⟨yb, j, none⟩ v ad.block h)
  rw [e, e, e, e, e]

theorem spares_set5 (W : World) (b : Nat) (v0 v1 v2 v3 v4 : Value) : Spares (fun i => i = b) W (((((W.setCell ⟨b, 0, none⟩ v0).setCell ⟨b, 1, none⟩ v1).setCell ⟨b, 2, none⟩ v2).setCell ⟨b, 3, none⟩ v3).setCell ⟨b, 4, none⟩ v4) :=
  ((((spares_set W ⟨b, 0, none⟩ v0).andThen (spares_set _ ⟨b, 1, none⟩ v1) (fun i hi => .inl hi)).andThen (spares_set _ ⟨b, 2, none⟩ v2) (fun i hi => .inl hi)).andThen (spares_set _ ⟨b, 3, none⟩ v3) (fun i hi => .inl hi)).andThen (spares_set _ ⟨b, 4, none⟩ v4) (fun i hi => .inl hi)

section
variable {P : Program} {md : Region.Mode} {ops : Array Oper} {Q : Exit → Act → World → Prop} {S : World → Prop} {fuel : Nat} {listed : Array Bool} {a : Act} {w : World} {i k0 : Nat} {oi : Oper}

/-- Nothing but the common way out. -/
def Only (Q : Exit → Act → World → Prop) : Exit → Act → World → Prop
  | .normal, a, w => Q .normal a w
  | _, _, _ => False

theorem last_region {id : Nat} (S : World → Prop) (k0 : Nat) (hm : P.follows .mixedOrders = true) (h : wpAnyE P .any ops (Only Q) S k0 ops.size (Array.replicate ops.size false) a w.drew) : (Code.region id ops true).wp P Q a w :=
  wp_mono (wp_region_any hm (wpAny_of_E _ _ _ _ h)) (fun e a w h => by cases e <;> first | exact h | exact h.elim)

theorem takeE_loadrow (hr : Region.ready md ops listed = [i]) (hi : ops[i]? = some oi) (gi : oi.guard = none) (ty : TypeId) (x : Operand) (ki : oi.op = .load ty x)
    (g : Nat) (hx : a.eval x = .pointer (some ⟨g, 0, none⟩)) (t : TypeId) (cs : Array Value) (fr : Nat × Nat) (d : TypeDesc) (hg : w.heap[g]? = some (.cells cs t fr))
    (hu : P.underlying ty = some d) (hd : (match d with | .struct _ | .array _ _ => true | _ => false) = true) (hs : (P.info? ty).map (·.size) = some cs.size) (hS : S w)
    (h : wpAnyE P md ops Q S k0 fuel (listed.setIfInBounds i true) (a.put oi.dst (.agg cs)) w) : wpAnyE P md ops Q S k0 (fuel + 1) listed a w :=
  takeE_one hr hi gi (wp_load_row ty x ki g hx t cs fr d hg hu hd hs ⟨.inl hS, h⟩)

theorem takeE_storerow (hr : Region.ready md ops listed = [i]) (hi : ops[i]? = some oi) (gi : oi.guard = none) (ty : TypeId) (x y : Operand) (ki : oi.op = .store ty x y)
    (g : Nat) (cells : Array Value) (hx : a.eval x = .pointer (some ⟨g, 0, none⟩)) (hy : a.eval y = .agg cells) (t : TypeId) (old : Array Value) (hg : w.heap[g]? = some (.cells old t (0, 0))) (hs : (P.info? ty).map (·.size) = some cells.size)
    (hold : old.size = cells.size) (h1 : cells.all (·.oneCell') = true) (hS : S (w.setRow g cells) ∨ i = k0)
    (h : wpAnyE P md ops Q S k0 fuel (listed.setIfInBounds i true) (a.put oi.dst undef) (w.setRow g cells)) : wpAnyE P md ops Q S k0 (fuel + 1) listed a w :=
  takeE_one hr hi gi (wp_store_row ty x y ki g cells hx hy t old hg hs hold h1 ⟨hS, h⟩)
end

theorem Tryd.infoNode : (Tryd.prog.info? 98).map (·.size) = some 5 := by kernel_rfl
end Go.Proofs.YtmafaioohiaenaaDoor

/- Contract of trie.Tree.Delete. -/

namespace Go.Proofs.YtmafaioohiaenaaDoor
open Go.RowKit Go.Shelf
set_option linter.unusedVariables false
set_option maxRecDepth 20000
attribute [local go_sem] Oper.semAt_some

/-- What the loop has in hand. -/
structure DelI (w : World) {o : Option Nod} {key : List UInt8} (pre : List (Step o key)) (W : World) : Prop where
  up : W.heap[w.heap.size]? = some (.cells #[.pointer (prevOf pre)] 95 (0, 0))
  last : W.heap[w.heap.size + 1]? = some (.cells #[.pointer (lastOf pre)] 95 (0, 0))
  below : Below w.heap.size w W
  big : w.heap.size + 4 ≤ W.heap.size

theorem delI_own {w : World} {o : Option Nod} {key : List UInt8} {B : Nat} (hB : w.heap.size ≤ B) : OwnFrom B (fun (pre : List (Step o key)) W => DelI w pre W) := fun s W W' row h hg hr =>
  ⟨cells_own () W W' row h.up hg hr, cells_own () W W' row h.last hg hr, (spares_own (S := fun _ => False) hB () W W' row (Spares.of_new h.below) hg hr).below (fun i hi => hi.elim) (Nat.le_refl _), Nat.le_trans h.big hg.size⟩

theorem del_round {w W : World} {o : Option Nod} {key : List UInt8} {pre : List (Step o key)} {B : Nat} (h : DelI w pre W) (x : Step o key) :
    KeepsFrom B W ((W.setCell ⟨w.heap.size, 0, none⟩ (.pointer (lastOf pre))).setCell ⟨w.heap.size + 1, 0, none⟩ x.1.at') ∧ KpB w.heap.size (w.heap.size + 3) W ((W.setCell ⟨w.heap.size, 0, none⟩ (.pointer (lastOf pre))).setCell ⟨w.heap.size + 1, 0, none⟩ x.1.at') ∧
      DelI w (pre ++ [x]) ((W.setCell ⟨w.heap.size, 0, none⟩ (.pointer (lastOf pre))).setCell ⟨w.heap.size + 1, 0, none⟩ x.1.at') := by
  have hbig := h.big
  have sp : Spares (fun i => i = w.heap.size ∨ i = w.heap.size + 1) W ((W.setCell ⟨w.heap.size, 0, none⟩ (.pointer (lastOf pre))).setCell ⟨w.heap.size + 1, 0, none⟩ x.1.at') :=
    ((spares_set W ⟨w.heap.size, 0, none⟩ _).mono (fun i hi => .inl hi)).andThen (spares_set _ ⟨w.heap.size + 1, 0, none⟩ _) (fun i hi => .inl (.inr hi))
  have h0 := heap_setCell_same _ _ 0 _ _ (.pointer (lastOf pre)) h.up
  have h1 : (W.setCell ⟨w.heap.size, 0, none⟩ (.pointer (lastOf pre))).heap[w.heap.size + 1]? = _ := (Below.heap_setCell W ⟨w.heap.size, 0, none⟩ _ _ (by simp)).trans h.last
  refine ⟨keepsFrom_of sp ?_, ⟨sp.below (fun i hi => by rcases hi with rfl | rfl <;> omega) (by omega), sp.block _ (by omega) (by omega)⟩, ?_, ?_, h.below.trans (sp.below (fun i hi => by rcases hi with rfl | rfl <;> omega) h.below.size), Nat.le_trans hbig sp.size⟩
  · rintro i (rfl | rfl)
    · exact ⟨_, _, _, h.up⟩
    · exact ⟨_, _, _, h.last⟩
  · rw [prevOf_snoc]
    exact (Below.heap_setCell _ ⟨w.heap.size + 1, 0, none⟩ _ _ (by simp)).trans h0
  · rw [lastOf_snoc]
    exact heap_setCell_same _ _ 0 _ _ x.1.at' h1

theorem only_normal (Q : Exit → Act → World → Prop) (a : Act) (w : World) : Only Q .normal a w = Q .normal a w := rfl

theorem inBlock_normal (n : Nat) (Q : Exit → Act → World → Prop) (a : Act) (w : World) : Exit.inBlock n Q .normal a w = Q .normal a w := rfl

end Go.Proofs.YtmafaioohiaenaaDoor

/- A region's call and a new variable that may come either way round. Nothing of the program is named here. -/

namespace Go.Proofs.YtmafaioohiaenaaDoor
open Go.RowKit
set_option linter.unusedVariables false
set_option maxRecDepth 20000

section
variable {P : Program} {md : Region.Mode} {ops : Array Oper} {Q : Exit → Act → World → Prop} {S : World → Prop} {fuel : Nat} {listed : Array Bool} {a : Act} {w : World} {i j k0 : Nat} {oi oj : Oper}

theorem takeE_two (hr : Region.ready md ops listed = [i, j]) (hi : ops[i]? = some oi) (hj : ops[j]? = some oj) (gi : oi.guard = none) (gj : oj.guard = none)
    (h1 : oi.wp P a w (fun a' w' => (S w' ∨ i = k0) ∧ wpAnyE P md ops Q S k0 fuel (listed.setIfInBounds i true) a' w') Q)
    (h2 : oj.wp P a w (fun a' w' => (S w' ∨ j = k0) ∧ wpAnyE P md ops Q S k0 fuel (listed.setIfInBounds j true) a' w') Q) : wpAnyE P md ops Q S k0 (fuel + 1) listed a w := by
  refine wpAnyE_all hr (by simp) fun k hk => ?_
  simp only [List.mem_cons, List.not_mem_nil, or_false] at hk
  rcases hk with rfl | rfl
  · unfold wpOp
    simp only [hi, show Region.wanted oi (yielded ops a.tmps) = true by simp [Region.wanted, gi], if_true]
    exact .inl h1
  · unfold wpOp
    simp only [hj, show Region.wanted oj (yielded ops a.tmps) = true by simp [Region.wanted, gj], if_true]
    exact .inl h2

theorem wp_call_of {f : FuncId} {xs : Array Operand} {ts : Array TypeId} {K : Act → World → Prop} (args : Array Value) (R : Value → World → Prop)
    (ki : oi.op = .call { callee := .value (.func f), args := xs, argTypes := ts }) (ea : xs.map a.eval = args) (ef : ∀ args w, (callFunc f args).run P w = .ok (.enter f args) w)
    (hc : Calls P f args w fun e w' => ∃ v, e = .returned v ∧ R v w') (h : ∀ v w', R v w' → K (a.put oi.dst v) w') : oi.wp P a w K Q := by
  unfold Oper.wp execOp
  simp only [ki, resolve, ea, Act.eval, Deferred.ofValue, invoke, Sem.run_bind, Sem.run_pure, Result.andThen_ok, Array.append_empty, Array.empty_append, ef]
  exact hc.mono fun e w' ⟨v, he, hR⟩ => by subst he; exact h v w' hR

theorem wp_alloc_of {t : TypeId} {K : Act → World → Prop} {o : Obj} (kj : oj.op = .alloc t) (hal : (Instr.alloc t true (.tuple #[])).run P w = .ok (.pointer (some ⟨w.heap.size, 0, none⟩)) (w.alloc o))
    (h : K (a.put oj.dst (.pointer (some ⟨w.heap.size, 0, none⟩))) (w.alloc o)) : oj.wp P a w K Q := by
  unfold Oper.wp execOp
  simp only [kj, Sem.run_bind, hal, Sem.run_pure, Result.andThen_ok]
  exact h

/-- A call that at most draws, and a new variable: either way round. -/
theorem takeE_call_alloc {f : FuncId} {xs : Array Operand} {ts : Array TypeId} {t : TypeId} (args : Array Value) (R : Value → Prop) (o : Obj)
    (hr : Region.ready md ops listed = [i, j]) (hr1 : Region.ready md ops (listed.setIfInBounds i true) = [j]) (hr2 : Region.ready md ops (listed.setIfInBounds j true) = [i])
    (hi : ops[i]? = some oi) (hj : ops[j]? = some oj) (gi : oi.guard = none) (gj : oj.guard = none) (hij : i ≠ j)
    (ki : oi.op = .call { callee := .value (.func f), args := xs, argTypes := ts }) (kj : oj.op = .alloc t)
    (hal : ∀ W : World, (Instr.alloc t true (.tuple #[])).run P W = .ok (.pointer (some ⟨W.heap.size, 0, none⟩)) (W.alloc o))
    (ea : xs.map a.eval = args) (ea' : xs.map (a.put oj.dst (.pointer (some ⟨w.heap.size, 0, none⟩))).eval = args) (ef : ∀ args w, (callFunc f args).run P w = .ok (.enter f args) w)
    (hcom : ∀ u, (a.put oj.dst (.pointer (some ⟨w.heap.size, 0, none⟩))).put oi.dst u = (a.put oi.dst u).put oj.dst (.pointer (some ⟨w.heap.size, 0, none⟩)))
    (hc : Calls P f args w fun e w' => ∃ v, e = .returned v ∧ R v ∧ ∃ q, w' = w.drewN q)
    (hc' : Calls P f args (w.alloc o) fun e w' => ∃ v, e = .returned v ∧ R v ∧ ∃ q, w' = (w.alloc o).drewN q)
    (hS1 : ∀ q, S (w.drewN q)) (hS2 : ∀ q, S ((w.alloc o).drewN q))
    (h : ∀ v q, R v → wpAnyE P md ops Q S k0 fuel ((listed.setIfInBounds i true).setIfInBounds j true) ((a.put oi.dst v).put oj.dst (.pointer (some ⟨w.heap.size, 0, none⟩))) ((w.alloc o).drewN q)) :
    wpAnyE P md ops Q S k0 (fuel + 2) listed a w := by
  refine takeE_two hr hi hj gi gj ?_ ?_
  · refine wp_call_of args (fun v w' => R v ∧ ∃ q, w' = w.drewN q) ki ea ef hc ?_
    rintro v w' ⟨hv, q, rfl⟩
    exact ⟨.inl (hS1 q), takeE_one hr1 hj gj (wp_alloc_of kj (hal _) ⟨.inl (hS2 q), h v q hv⟩)⟩
  · refine wp_alloc_of kj (hal _) ⟨.inl (hS2 0), takeE_one hr2 hi gi (wp_call_of args (fun v w' => R v ∧ ∃ q, w' = (w.alloc o).drewN q) ki ea' ef hc' ?_)⟩
    rintro v w' ⟨hv, q, rfl⟩
    refine ⟨.inl (hS2 q), ?_⟩
    rw [hcom, Array.setIfInBounds_comm _ _ (Ne.symm hij)]
    exact h v q hv
end
end Go.Proofs.YtmafaioohiaenaaDoor
