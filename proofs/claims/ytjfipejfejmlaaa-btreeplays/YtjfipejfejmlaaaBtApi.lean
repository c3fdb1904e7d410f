/- What the laws of stage 14 ask of the program's tree; pure facts of leaves and depth. -/
import Derived.Test.YtjfipejfejmlaaaBtMem
namespace Go.Proofs.Ytjfipejfejmlaaa
open Go.RowKit Go.Shelf
set_option linter.unusedVariables false
set_option linter.unusedSimpArgs false
set_option maxRecDepth 20000

/-- A key and a value that a slice may show. -/
def Fine (e : Ent) : Prop := e.1.length ≤ 140737488351232 ∧ e.2.length ≤ 140737488351232

/-- Leaves and depth, as P14.3 and P14.6 have them. -/
structure Good (P : List (List Ent)) (d : Nat) : Prop where
  rises : Tri.Rises P.flatten
  fine : ∀ e ∈ P.flatten, Fine e
  most : ∀ p ∈ P, p.length ≤ 4
  least : 1 < P.length → ∀ p ∈ P, 2 ≤ p.length
  some : 1 ≤ P.length
  one : d = 1 ↔ P.length = 1
  pos : 1 ≤ d
  few : 1 < d → 2 ^ d ≤ P.flatten.length
  many : 1 < d → P.flatten.length ≤ 4 ^ d

theorem fine_put {L : List Ent} (hr : Tri.Rises L) (hL : ∀ e ∈ L, Fine e) {e : Ent} (he : Fine e) : ∀ f ∈ putL L e, Fine f := fun f hf => by
  rcases (putL_mem L hr e f).1 hf with rfl | h
  · exact he
  · exact hL f h.1

theorem fine_del {L : List Ent} (hr : Tri.Rises L) (hL : ∀ e ∈ L, Fine e) (key : List UInt8) : ∀ f ∈ delL L key, Fine f := fun f hf => hL f ((delL_mem L hr key f).1 hf).1

theorem depth_few {d n : Nat} (hn : n ≤ 100) (h : 1 < d → 2 ^ d ≤ n) : d ≤ 6 := by
  rcases Nat.lt_or_ge d 7 with h1 | h1
  · omega
  · have h2 := h (by omega)
    have h3 : 2 ^ 7 ≤ 2 ^ d := Nat.pow_le_pow_right (by omega) h1
    omega

/-- The leaves, as they lie: an outer row of slices, each of entries. -/
def Leaves (w : World) (pv : Value) (Q : List (List EntV)) : Prop :=
  ∃ b off c, pv = .slice (some ⟨b, off, none⟩) Q.length c ∧ Q.length ≤ c ∧ c ≤ maxLen ∧ ∀ j q, Q[j]? = some q → ∃ v, w.cell? ⟨b, off + j, none⟩ = some v ∧ Ents w.heap.size w v q ∧ ∀ l c, v = .slice none l c → c = 0

theorem Leaves.new {w w' : World} {pv : Value} {Q : List (List EntV)} (h : Leaves w pv Q) (hb : Below w.heap.size w w') : Leaves w' pv Q := by
  obtain ⟨b, off, c, h1, h2, h3, h4⟩ := h
  refine ⟨b, off, c, h1, h2, h3, fun j q hq => ?_⟩
  obtain ⟨v, k1, k2, k3⟩ := h4 j q hq
  exact ⟨v, by rw [hb.cell (p := ⟨b, off + j, none⟩) (World.block_lt_of_cell? w _ k1)]; exact k1, k2.new hb, k3⟩

/-- THE PROGRAM's TREE, as the laws need it: BT S w tb P d: at block tb lies a tree whose leaves hold P, of depth d, all of whose blocks are of S. -/
structure Api (BT : (Nat → Prop) → World → Nat → List (List Ent) → Nat → Prop) : Prop where
  keep : ∀ {S R : Nat → Prop} {w w' : World} {tb d : Nat} {P : List (List Ent)}, BT S w tb P d → Spares R w w' → (∀ i, S i → ¬ R i) → BT S w' tb P d
  lt : ∀ {S : Nat → Prop} {w : World} {tb d : Nat} {P : List (List Ent)}, BT S w tb P d → ∀ i, S i → i < w.heap.size
  good : ∀ {S : Nat → Prop} {w : World} {tb d : Nat} {P : List (List Ent)}, BT S w tb P d → Good P d
  new : ∀ w : World, Calls Try.prog 9 #[] w fun e w' => ∃ tb S P d, e = .returned (.pointer (some ⟨tb, 0, none⟩)) ∧ BT S w' tb P d ∧ P.flatten = [] ∧ (∀ i, S i → w.heap.size ≤ i) ∧ Below w.heap.size w w'
  put : ∀ {S : Nat → Prop} {w : World} {tb d : Nat} {P : List (List Ent)} (kv vv : Value) (key val : List UInt8), BT S w tb P d → Says w kv key → Says w vv val → Fine (key, val) → P.flatten.length < 100000 →
    Calls Try.prog 11 #[.pointer (some ⟨tb, 0, none⟩), kv, vv] w fun e w' => e = .returned (.bool (hitK P.flatten key)) ∧ ∃ S' P' d', BT S' w' tb P' d' ∧ P'.flatten = putL P.flatten (key, val) ∧ (∀ i, S' i → S i ∨ w.heap.size ≤ i) ∧ Spares S w w'
  get : ∀ {S : Nat → Prop} {w : World} {tb d : Nat} {P : List (List Ent)} (kv : Value) (key : List UInt8), BT S w tb P d → Says w kv key → P.flatten.length < 100000 →
    Calls Try.prog 22 #[.pointer (some ⟨tb, 0, none⟩), kv] w fun e w' => ∃ v', e = .returned (.tuple #[v', .bool (hitK P.flatten key)]) ∧ Copy w.heap.size w' v' ((lookL P.flatten key).getD []) ∧ Below w.heap.size w w'
  delete : ∀ {S : Nat → Prop} {w : World} {tb d : Nat} {P : List (List Ent)} (kv : Value) (key : List UInt8), BT S w tb P d → Says w kv key → P.flatten.length < 100000 →
    Calls Try.prog 17 #[.pointer (some ⟨tb, 0, none⟩), kv] w fun e w' => e = .returned (.bool (hitK P.flatten key)) ∧ ∃ S' P' d', BT S' w' tb P' d' ∧ P'.flatten = delL P.flatten key ∧ (∀ i, S' i → S i ∨ w.heap.size ≤ i) ∧ Spares S w w'
  count : ∀ {S : Nat → Prop} {w : World} {tb d : Nat} {P : List (List Ent)}, BT S w tb P d → P.flatten.length < 100000 →
    Calls Try.prog 13 #[.pointer (some ⟨tb, 0, none⟩)] w fun e w' => e = .returned (.int .i64 (P.flatten.length : Nat)) ∧ Below w.heap.size w w'
  depth : ∀ {S : Nat → Prop} {w : World} {tb d : Nat} {P : List (List Ent)}, BT S w tb P d → P.flatten.length < 100000 →
    Calls Try.prog 19 #[.pointer (some ⟨tb, 0, none⟩)] w fun e w' => e = .returned (.int .i64 (d : Nat)) ∧ Below w.heap.size w w'
  range : ∀ {S : Nat → Prop} {w : World} {tb d : Nat} {P : List (List Ent)} (fv tv : Value) (a b : List UInt8) (en : Bool), BT S w tb P d → Says w fv a → Says w tv b → P.flatten.length < 100000 →
    Calls Try.prog 14 #[.pointer (some ⟨tb, 0, none⟩), .agg #[fv, tv, .bool en]] w fun e w' => ∃ sv xs, e = .returned sv ∧ Rowed w.heap.size w' sv xs ∧ xs.map EntV.ent = rangeL P.flatten a b en ∧ Below w.heap.size w w'
  pages : ∀ {S : Nat → Prop} {w : World} {tb d : Nat} {P : List (List Ent)}, BT S w tb P d → P.flatten.length < 100000 →
    Calls Try.prog 18 #[.pointer (some ⟨tb, 0, none⟩)] w fun e w' => ∃ pv Q, e = .returned pv ∧ Leaves w' pv Q ∧ Q.map (List.map EntV.ent) = P ∧ Below w.heap.size w w'
  clone : ∀ {S : Nat → Prop} {w : World} {tb d : Nat} {P : List (List Ent)}, BT S w tb P d → P.flatten.length < 100000 →
    Calls Try.prog 10 #[.pointer (some ⟨tb, 0, none⟩)] w fun e w' => ∃ tb' S' P' d', e = .returned (.pointer (some ⟨tb', 0, none⟩)) ∧ BT S' w' tb' P' d' ∧ P'.flatten = P.flatten ∧ (∀ i, S' i → w.heap.size ≤ i) ∧ Below w.heap.size w w'

/-- The tree with its entries alone, in blocks from B on. -/
def BL (BT : (Nat → Prop) → World → Nat → List (List Ent) → Nat → Prop) (A : Nat → Prop) (w : World) (tb : Nat) (L : List Ent) : Prop :=
  ∃ S P d, BT S w tb P d ∧ P.flatten = L ∧ ∀ i, S i → A i

section
variable {BT : (Nat → Prop) → World → Nat → List (List Ent) → Nat → Prop} (HA : Api BT) {A : Nat → Prop} {w : World} {tb : Nat} {L : List Ent}
include HA

theorem Api.rises (h : BL BT A w tb L) : Tri.Rises L := by
  obtain ⟨S, P, d, h1, rfl, _⟩ := h
  exact (HA.good h1).rises

theorem Api.fine (h : BL BT A w tb L) : ∀ e ∈ L, Fine e := by
  obtain ⟨S, P, d, h1, rfl, _⟩ := h
  exact (HA.good h1).fine

theorem Api.keepL {R : Nat → Prop} {w' : World} (h : BL BT A w tb L) (hk : Spares R w w') (hd : ∀ i, A i → ¬ R i) : BL BT A w' tb L := by
  obtain ⟨S, P, d, h1, h2, h3⟩ := h
  exact ⟨S, P, d, HA.keep h1 hk (fun i hi => hd i (h3 i hi)), h2, h3⟩

theorem Api.newL {w' : World} (h : BL BT A w tb L) (hb : Below w.heap.size w w') : BL BT A w' tb L := HA.keepL h (R := fun _ => False) (Spares.of_new hb) (fun _ _ => id)

omit HA in
theorem BL.mono {A' : Nat → Prop} (h : BL BT A w tb L) (hA : ∀ i, A i → A' i) : BL BT A' w tb L := by
  obtain ⟨S, P, d, h1, h2, h3⟩ := h
  exact ⟨S, P, d, h1, h2, fun i hi => hA i (h3 i hi)⟩

theorem Api.ltL (h : BL BT A w tb L) : BL BT (fun i => A i ∧ i < w.heap.size) w tb L := by
  obtain ⟨S, P, d, h1, h2, h3⟩ := h
  exact ⟨S, P, d, h1, h2, fun i hi => ⟨h3 i hi, HA.lt h1 i hi⟩⟩

theorem Api.newB (w : World) : Calls Try.prog 9 #[] w fun e w' => ∃ tb, e = .returned (.pointer (some ⟨tb, 0, none⟩)) ∧ BL BT (fun i => w.heap.size ≤ i) w' tb [] ∧ Below w.heap.size w w' :=
  (HA.new w).mono fun e w' ⟨tb, S, P, d, h1, h2, h3, h4, h5⟩ => ⟨tb, h1, ⟨S, P, d, h2, h3, h4⟩, h5⟩

theorem Api.putB (kv vv : Value) (key val : List UInt8) (h : BL BT A w tb L) (hA : ∀ i, w.heap.size ≤ i → A i) (hk : Says w kv key) (hv : Says w vv val) (hf : Fine (key, val)) (hn : L.length < 100000) :
    Calls Try.prog 11 #[.pointer (some ⟨tb, 0, none⟩), kv, vv] w fun e w' => e = .returned (.bool (hitK L key)) ∧ BL BT A w' tb (putL L (key, val)) ∧ Spares A w w' := by
  obtain ⟨S, P, d, h1, rfl, h3⟩ := h
  exact (HA.put kv vv key val h1 hk hv hf hn).mono fun e w' ⟨q1, S', P', d', q2, q3, q4, q5⟩ => ⟨q1, ⟨S', P', d', q2, q3, fun i hi => (q4 i hi).elim (h3 i) (hA i)⟩, q5.mono h3⟩

theorem Api.getB (kv : Value) (key : List UInt8) (h : BL BT A w tb L) (hk : Says w kv key) (hn : L.length < 100000) :
    Calls Try.prog 22 #[.pointer (some ⟨tb, 0, none⟩), kv] w fun e w' => ∃ v', e = .returned (.tuple #[v', .bool (hitK L key)]) ∧ Copy w.heap.size w' v' ((lookL L key).getD []) ∧ Below w.heap.size w w' := by
  obtain ⟨S, P, d, h1, rfl, h3⟩ := h
  exact HA.get kv key h1 hk hn

theorem Api.deleteB (kv : Value) (key : List UInt8) (h : BL BT A w tb L) (hA : ∀ i, w.heap.size ≤ i → A i) (hk : Says w kv key) (hn : L.length < 100000) :
    Calls Try.prog 17 #[.pointer (some ⟨tb, 0, none⟩), kv] w fun e w' => e = .returned (.bool (hitK L key)) ∧ BL BT A w' tb (delL L key) ∧ Spares A w w' := by
  obtain ⟨S, P, d, h1, rfl, h3⟩ := h
  exact (HA.delete kv key h1 hk hn).mono fun e w' ⟨q1, S', P', d', q2, q3, q4, q5⟩ => ⟨q1, ⟨S', P', d', q2, q3, fun i hi => (q4 i hi).elim (h3 i) (hA i)⟩, q5.mono h3⟩

theorem Api.countB (h : BL BT A w tb L) (hn : L.length < 100000) :
    Calls Try.prog 13 #[.pointer (some ⟨tb, 0, none⟩)] w fun e w' => e = .returned (.int .i64 (L.length : Nat)) ∧ Below w.heap.size w w' := by
  obtain ⟨S, P, d, h1, rfl, h3⟩ := h
  exact HA.count h1 hn

theorem Api.rangeB (fv tv : Value) (a b : List UInt8) (en : Bool) (h : BL BT A w tb L) (hf : Says w fv a) (ht : Says w tv b) (hn : L.length < 100000) :
    Calls Try.prog 14 #[.pointer (some ⟨tb, 0, none⟩), .agg #[fv, tv, .bool en]] w fun e w' => ∃ sv xs, e = .returned sv ∧ Rowed w.heap.size w' sv xs ∧ xs.map EntV.ent = rangeL L a b en ∧ Below w.heap.size w w' := by
  obtain ⟨S, P, d, h1, rfl, h3⟩ := h
  exact HA.range fv tv a b en h1 hf ht hn

theorem Api.cloneB (h : BL BT A w tb L) (hn : L.length < 100000) :
    Calls Try.prog 10 #[.pointer (some ⟨tb, 0, none⟩)] w fun e w' => ∃ tb', e = .returned (.pointer (some ⟨tb', 0, none⟩)) ∧ BL BT (fun i => w.heap.size ≤ i) w' tb' L ∧ Below w.heap.size w w' := by
  obtain ⟨S, P, d, h1, rfl, h3⟩ := h
  exact (HA.clone h1 hn).mono fun e w' ⟨tb', S', P', d', q1, q2, q3, q4, q5⟩ => ⟨tb', q1, ⟨S', P', d', q2, q3, q4⟩, q5⟩
end
end Go.Proofs.Ytjfipejfejmlaaa
