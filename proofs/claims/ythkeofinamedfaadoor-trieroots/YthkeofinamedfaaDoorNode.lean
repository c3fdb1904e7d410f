/- Trees of nodes in memory. -/
import Derived.Test.YthkeofinamedfaaDoorUnlikeF
import Derived.Test.YthkeofinamedfaaDoorKeep
namespace Go.Proofs.YthkeofinamedfaaDoor
open Go.RowKit
set_option linter.unusedVariables false
set_option maxRecDepth 20000

/-- What of bytes there was is there. -/
structure Bytes (w w' : World) : Prop where
  size : w.heap.size ≤ w'.heap.size
  cell : ∀ ad n, w.cell? ad = some (.int .u8 n) → w'.cell? ad = some (.int .u8 n)

theorem Bytes.refl (w : World) : Bytes w w := ⟨Nat.le_refl _, fun _ _ h => h⟩
theorem Bytes.trans {a b c : World} (h : Bytes a b) (k : Bytes b c) : Bytes a c := ⟨Nat.le_trans h.size k.size, fun ad n hc => k.cell ad n (h.cell ad n hc)⟩
theorem Bytes.of_new {w w' : World} (h : Below w.heap.size w w') : Bytes w w' := ⟨h.size, fun ad n hc => by rw [h.cell (p := ad) (World.block_lt_of_cell? w ad hc)]; exact hc⟩

/-- Bytes that a slice shows, wherever they lie. -/
def Says (w : World) (v : Value) (bs : List UInt8) : Prop := Shows w.heap.size w v bs

theorem Says.bytes {w w' : World} {v : Value} {bs : List UInt8} (h : Says w v bs) (hb : Bytes w w') : Says w' v bs := by
  obtain ⟨a, c, hv, h1, h2, hn, h3⟩ := h
  refine ⟨a, c, hv, h1, h2, hn, fun hne => ?_⟩
  obtain ⟨b, off, ha, hlt, hc⟩ := h3 hne
  exact ⟨b, off, ha, by have := hb.size; omega, fun j hj => hb.cell _ _ (hc j hj)⟩

theorem Says.new {w w' : World} {v : Value} {bs : List UInt8} (h : Says w v bs) (hb : Below w.heap.size w w') : Says w' v bs := h.bytes (Bytes.of_new hb)

/-- A tree of nodes: each with its block; of a leaf the slices of its key and its value, and what they show. -/
inductive Nod where
  | leaf (b : Nat) (kv vv : Value) (k v : List UInt8)
  | fork (b p : Nat) (l r : Nod)

namespace Nod
def blk : Nod → Nat
  | leaf b _ _ _ _ => b
  | fork b _ _ _ => b

/-- Where it lies. -/
def at' (x : Nod) : Value := .pointer (some ⟨x.blk, 0, none⟩)

def tri : Nod → Tri
  | leaf _ _ _ k v => .leaf k v
  | fork _ p l r => .fork p l.tri r.tri

def blks : Nod → List Nat
  | leaf b _ _ _ _ => [b]
  | fork b _ l r => b :: (l.blks ++ r.blks)

/-- What its block holds. -/
def cells : Nod → Array Value
  | leaf _ kv vv _ _ => #[kv, vv, .int .i64 0, .pointer none, .pointer none]
  | fork _ p l r => #[.slice none 0 0, .slice none 0 0, .int .i64 p, l.at', r.at']

/-- THE NODES LIE IN MEMORY. -/
def Lies (w : World) : Nod → Prop
  | leaf b kv vv k v => w.heap[b]? = some (.cells #[kv, vv, .int .i64 0, .pointer none, .pointer none] 84 (0, 0)) ∧ Says w kv k ∧ Says w vv v
  | fork b p l r => w.heap[b]? = some (.cells #[.slice none 0 0, .slice none 0 0, .int .i64 p, l.at', r.at'] 84 (0, 0)) ∧ l.Lies w ∧ r.Lies w

theorem Lies.keeps : ∀ {x : Nod} {w w' : World}, x.Lies w → Bytes w w' → (∀ b ∈ x.blks, w'.heap[b]? = w.heap[b]?) → x.Lies w'
  | leaf b kv vv k v, w, w', h, hb, hk => ⟨(hk b (by simp [blks])).trans h.1, h.2.1.bytes hb, h.2.2.bytes hb⟩
  | fork b p l r, w, w', h, hb, hk => ⟨(hk b (by simp [blks])).trans h.1, h.2.1.keeps hb fun i hi => hk i (by simp [blks, hi]), h.2.2.keeps hb fun i hi => hk i (by simp [blks, hi])⟩

theorem Lies.block {x : Nod} {w : World} (h : x.Lies w) : w.heap[x.blk]? = some (.cells x.cells 84 (0, 0)) := by
  cases x with
  | leaf b kv vv k v => exact h.1
  | fork b p l r => exact h.1

theorem Lies.all : ∀ {x : Nod} {w : World}, x.Lies w → ∀ b ∈ x.blks, ∃ cs, w.heap[b]? = some (.cells cs 84 (0, 0)) ∧ ∀ (i : Nat) (n : Int), cs[i]? ≠ some (.int .u8 n)
  | leaf b kv vv k v, w, h, i, hi => by
    simp [blks] at hi
    subst hi
    obtain ⟨_, _, e1, _⟩ := h.2.1
    obtain ⟨_, _, e2, _⟩ := h.2.2
    subst e1 e2
    refine ⟨_, h.1, fun i n => ?_⟩
    match i with
    | 0 => simp
    | 1 => simp
    | 2 => simp
    | 3 => simp
    | 4 => simp
    | i + 5 => simp
  | fork b p l r, w, h, i, hi => by
    simp only [blks, List.mem_cons, List.mem_append] at hi
    rcases hi with rfl | hi | hi
    · refine ⟨_, h.1, fun i n => ?_⟩
      match i with
      | 0 => simp
      | 1 => simp
      | 2 => simp
      | 3 => simp [at']
      | 4 => simp [at']
      | i + 5 => simp
    · exact h.2.1.all i hi
    · exact h.2.2.all i hi

theorem Lies.lt {x : Nod} {w : World} (h : x.Lies w) : ∀ b ∈ x.blks, b < w.heap.size := fun b hb => by
  obtain ⟨cs, hc, _⟩ := h.all b hb
  exact (Array.getElem?_eq_some_iff.1 hc).1

theorem Lies.new {x : Nod} {w w' : World} (h : x.Lies w) (hb : Below w.heap.size w w') : x.Lies w' := h.keeps (Bytes.of_new hb) fun b hi => hb.block b (h.lt b hi)

theorem blk_mem (x : Nod) : x.blk ∈ x.blks := by cases x <;> simp [blk, blks]

/-- The nodes that a key leads through, from the top. -/
def way : Nod → List UInt8 → List Nod
  | leaf b kv vv k v, _ => [leaf b kv vv k v]
  | fork b p l r, key => fork b p l r :: (if bit key p then r.way key else l.way key)

theorem way_lies : ∀ {x : Nod} {w : World}, x.Lies w → ∀ {key : List UInt8}, ∀ y ∈ x.way key, y.Lies w
  | leaf b kv vv k v, w, h, key, y, hy => by simp [way] at hy; subst hy; exact h
  | fork b p l r, w, h, key, y, hy => by
    simp only [way, List.mem_cons] at hy
    rcases hy with rfl | hy
    · exact h
    · split at hy
      · exact way_lies h.2.2 y hy
      · exact way_lies h.2.1 y hy

theorem way_blks : ∀ {x : Nod} {key : List UInt8}, ∀ y ∈ x.way key, ∀ b ∈ y.blks, b ∈ x.blks
  | leaf b kv vv k v, key, y, hy, i, hi => by simp [way] at hy; subst hy; exact hi
  | fork b p l r, key, y, hy, i, hi => by
    simp only [way, List.mem_cons] at hy
    rcases hy with rfl | hy
    · exact hi
    · simp only [blks, List.mem_cons, List.mem_append]
      split at hy
      · exact .inr (.inr (way_blks y hy i hi))
      · exact .inr (.inl (way_blks y hy i hi))

theorem way_ne (x : Nod) (key : List UInt8) : x.way key ≠ [] := by cases x <;> simp [way]

theorem way_head (x : Nod) (key : List UInt8) : ∃ r, x.way key = x :: r := by cases x <;> simp [way]

theorem ok_way : ∀ {x : Nod}, x.tri.WF → ∀ {key : List UInt8}, ∀ y ∈ x.way key, y.tri.WF
  | leaf b kv vv k v, h, key, y, hy => by simp [way] at hy; subst hy; exact h
  | fork b p l r, h, key, y, hy => by
    simp only [way, List.mem_cons] at hy
    rcases hy with rfl | hy
    · exact h
    · split at hy
      · exact ok_way h.2.1 y hy
      · exact ok_way h.1 y hy

/-- The leaf to which a key leads. -/
def end' : Nod → List UInt8 → Nod
  | leaf b kv vv k v, _ => leaf b kv vv k v
  | fork b p l r, key => if bit key p then r.end' key else l.end' key

theorem way_last : ∀ (x : Nod) (key : List UInt8), (x.way key).getLast? = some (x.end' key)
  | leaf b kv vv k v, key => rfl
  | fork b p l r, key => by
    simp only [way, end']
    have hr := way_last r key
    have hl := way_last l key
    split
    · rw [List.getLast?_cons, hr]; rfl
    · rw [List.getLast?_cons, hl]; rfl

theorem end_leaf : ∀ (x : Nod) (key : List UInt8), ∃ b kv vv k v, x.end' key = leaf b kv vv k v ∧ x.tri.near key = (k, v)
  | leaf b kv vv k v, key => ⟨b, kv, vv, k, v, rfl, rfl⟩
  | fork b p l r, key => by
    simp only [end', tri, Tri.near]
    split
    · exact end_leaf r key
    · exact end_leaf l key

theorem end_mem (x : Nod) (key : List UInt8) : x.end' key ∈ x.way key := List.mem_of_getLast? (way_last x key)
end Nod

/-- Where a tree of nodes lies that may be none. -/
def topOf : Option Nod → Option Addr
  | none => none
  | some x => some ⟨x.blk, 0, none⟩

def triO (o : Option Nod) : Option Tri := o.map Nod.tri

def wayO : Option Nod → List UInt8 → List Nod
  | none, _ => []
  | some x, key => x.way key

/-- A TREE: its block, its nodes. -/
structure TreeAt (w : World) (tb : Nat) (o : Option Nod) : Prop where
  head : w.heap[tb]? = some (.cells #[.pointer (topOf o), .int .i64 ((Tri.entsO (triO o)).length : Nat)] 69 (0, 0))
  lies : ∀ x, o = some x → x.Lies w
  nodup : ∀ x, o = some x → x.blks.Nodup
  wf : Tri.WFO (triO o)

/-- The blocks that a call may write: the tree's own, its nodes. -/
def own (tb : Nat) (o : Option Nod) (b : Nat) : Prop := b = tb ∨ ∃ x, o = some x ∧ b ∈ x.blks

theorem TreeAt.keeps {w w' : World} {tb : Nat} {o : Option Nod} (h : TreeAt w tb o) (hb : Bytes w w') (hk : ∀ b, own tb o b → w'.heap[b]? = w.heap[b]?) : TreeAt w' tb o :=
  ⟨(hk tb (.inl rfl)).trans h.head, fun x e => (h.lies x e).keeps hb fun b hi => hk b (.inr ⟨x, e, hi⟩), h.nodup, h.wf⟩

theorem TreeAt.lt {w : World} {tb : Nat} {o : Option Nod} (h : TreeAt w tb o) : ∀ b, own tb o b → b < w.heap.size := by
  rintro b (rfl | ⟨x, e, hi⟩)
  · exact (Array.getElem?_eq_some_iff.1 h.head).1
  · exact (h.lies x e).lt b hi

theorem TreeAt.new {w w' : World} {tb : Nat} {o : Option Nod} (h : TreeAt w tb o) (hb : Below w.heap.size w w') : TreeAt w' tb o :=
  h.keeps (Bytes.of_new hb) fun b hi => hb.block b (h.lt b hi)

/-- None of the blocks that a call may write has bytes. -/
theorem TreeAt.clean {w : World} {tb : Nat} {o : Option Nod} (h : TreeAt w tb o) (ad : Addr) (n : Int) (ho : own tb o ad.block) : w.cell? ad ≠ some (.int .u8 n) := by
  intro hc
  have key : ∀ cs t, w.heap[ad.block]? = some (.cells cs t (0, 0)) → (∀ (i : Nat) (n : Int), cs[i]? ≠ some (.int .u8 n)) → False := by
    intro cs t hcs hno
    unfold World.cell? at hc
    rw [hcs] at hc
    simp only at hc
    split at hc
    · cases hc
    · exact hno _ _ hc
  rcases ho with e | ⟨x, e, hi⟩
  · refine key _ _ (by rw [e]; exact h.head) fun i n => ?_
    match i with
    | 0 => simp
    | 1 => simp
    | i + 2 => simp
  · obtain ⟨cs, h1, h2⟩ := (h.lies x e).all _ hi
    exact key cs _ h1 h2

theorem TreeAt.bytes {w w' : World} {tb : Nat} {o : Option Nod} (h : TreeAt w tb o) (hs : Spares (own tb o) w w') : Bytes w w' :=
  ⟨hs.size, fun ad n hc => hs.cell hc fun ho => h.clean ad n ho hc⟩
end Go.Proofs.YthkeofinamedfaaDoor
