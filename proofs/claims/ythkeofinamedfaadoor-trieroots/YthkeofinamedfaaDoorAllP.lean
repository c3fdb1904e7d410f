/- Slices of entries as they lie in memory, in blocks of their own; nothing is walked here. -/
import Derived.Test.YthkeofinamedfaaDoorPathP
namespace Go.Proofs.YthkeofinamedfaaDoor
open Go.RowKit Go.Shelf
set_option linter.unusedVariables false
set_option maxRecDepth 20000

/-- An entry as it lies: its two slices, and what they show. -/
structure EntV where
  kv : Value
  vv : Value
  k : List UInt8
  v : List UInt8

def EntV.ent (x : EntV) : Ent := (x.k, x.v)
def EntV.two (x : EntV) : List Value := [x.kv, x.vv]

def Nod.items : Nod → List EntV
  | leaf _ kv vv k v => [⟨kv, vv, k, v⟩]
  | fork _ _ l r => l.items ++ r.items

theorem Nod.items_ents : ∀ x : Nod, x.items.map EntV.ent = x.tri.ents
  | leaf _ _ _ _ _ => rfl
  | fork _ _ l r => by simp [items, tri, Tri.ents, items_ents l, items_ents r]

theorem Nod.items_says : ∀ {x : Nod} {w : World}, x.Lies w → ∀ y ∈ x.items, Says w y.kv y.k ∧ Says w y.vv y.v
  | leaf _ _ _ _ _, w, h, y, hy => by simp [items] at hy; subst hy; exact h.2
  | fork _ _ l r, w, h, y, hy => by
    rcases List.mem_append.1 hy with hy | hy
    · exact items_says h.2.1 y hy
    · exact items_says h.2.2 y hy

def itemsO : Option Nod → List EntV
  | none => []
  | some x => x.items

theorem itemsO_ents (o : Option Nod) : (itemsO o).map EntV.ent = Tri.entsO (triO o) := by
  cases o with
  | none => rfl
  | some x => exact Nod.items_ents x

/-- The items of a tree. -/
abbrev Item (o : Option Nod) : Type := { y : EntV // y ∈ itemsO o }

theorem attach_map {o : Option Nod} : ∀ (l : List EntV) (h : ∀ y ∈ l, y ∈ itemsO o), ∃ q : List (Item o), q.map (·.1) = l
  | [], _ => ⟨[], rfl⟩
  | y :: l, h => by
    obtain ⟨q, hq⟩ := attach_map l (fun z hz => h z (by simp [hz]))
    exact ⟨⟨y, h y (by simp)⟩ :: q, by simp [hq]⟩

/-- The blocks of the nodes hold what they should. -/
def Nod.Rests (w : World) : Nod → Prop
  | leaf b kv vv k v => w.heap[b]? = some (.cells #[kv, vv, .int .i64 0, .pointer none, .pointer none] 84 (0, 0)) ∧ (∃ a n c, kv = .slice a n c) ∧ (∃ a n c, vv = .slice a n c)
  | fork b p l r => w.heap[b]? = some (.cells #[.slice none 0 0, .slice none 0 0, .int .i64 p, l.at', r.at'] 84 (0, 0)) ∧ l.Rests w ∧ r.Rests w

theorem Nod.rests : ∀ {x : Nod} {w : World}, x.Lies w → x.Rests w
  | leaf _ _ _ _ _, w, h => by
    obtain ⟨h0, ⟨a, c, e, _⟩, ⟨a', c', e', _⟩⟩ := h
    exact ⟨h0, ⟨_, _, _, e⟩, ⟨_, _, _, e'⟩⟩
  | fork _ _ l r, w, h => ⟨h.1, rests h.2.1, rests h.2.2⟩

theorem Nod.Rests.below : ∀ {x : Nod} {n₀ : Nat} {w w' : World}, x.Rests w → (∀ b ∈ x.blks, b < n₀) → Below n₀ w w' → x.Rests w'
  | leaf b _ _ _ _, n₀, w, w', h, hb, hw => ⟨(hw.block b (hb b (by simp [blks]))).trans h.1, h.2⟩
  | fork b _ l r, n₀, w, w', h, hb, hw => ⟨(hw.block b (hb b (by simp [blks]))).trans h.1, below h.2.1 (fun i hi => hb i (by simp [blks, hi])) hw, below h.2.2 (fun i hi => hb i (by simp [blks, hi])) hw⟩

/-- No two share a block. -/
def Sep (vs : List Value) : Prop := vs.Pairwise fun u v => ∀ g, u.ownBlock = some g → v.ownBlock ≠ some g

/-- A SLICE OF ENTRIES, all in blocks of their own from B on. -/
structure Rowed (B : Nat) (W : World) (sv : Value) (xs : List EntV) : Prop where
  row : W.ownsRow B 52 2 sv xs.length (xs.flatMap EntV.two)
  cps : ∀ x ∈ xs, Copy B W x.kv x.k ∧ Copy B W x.vv x.v
  sep : Sep (sv :: xs.flatMap EntV.two)

theorem rowed_nil (B : Nat) (W : World) : Rowed B W (.slice none 0 0) [] := ⟨World.ownsRow_nil _ _ _ _, fun x hx => (by cases hx), by simp [Sep]⟩

theorem Rowed.mem {B : Nat} {W : World} {sv : Value} {xs : List EntV} (h : Rowed B W sv xs) (u : Value) (hu : u ∈ xs.flatMap EntV.two) : ∃ bs, Copy B W u bs := by
  obtain ⟨x, hx, hu⟩ := List.mem_flatMap.1 hu
  simp only [EntV.two, List.mem_cons, List.not_mem_nil, or_false] at hu
  rcases hu with rfl | rfl
  · exact ⟨_, (h.cps x hx).1⟩
  · exact ⟨_, (h.cps x hx).2⟩

theorem Rowed.new {B : Nat} {W W' : World} {sv : Value} {xs : List EntV} (h : Rowed B W sv xs) (hb : Below W.heap.size W W') : Rowed B W' sv xs :=
  ⟨(Spares.of_new (S := fun _ => False) hb).row h.row (fun _ _ => id), fun x hx => ⟨(h.cps x hx).1.new hb, (h.cps x hx).2.new hb⟩, h.sep⟩

theorem Rowed.lower {B B' : Nat} {W : World} {sv : Value} {xs : List EntV} (h : Rowed B W sv xs) (hB : B' ≤ B) : Rowed B' W sv xs :=
  ⟨owns_lower h.row (fun g hg => Nat.le_trans hB (h.row.lt g hg).1), fun x hx => ⟨owns_lower (h.cps x hx).1 (fun g hg => Nat.le_trans hB ((h.cps x hx).1.lt g hg).1), owns_lower (h.cps x hx).2 (fun g hg => Nat.le_trans hB ((h.cps x hx).2.lt g hg).1)⟩, h.sep⟩

/-- What a walk over all entries has in hand: the row's box, the row. -/
structure AllI (w : World) {o : Option Nod} (pre : List (Item o)) (W : World) (sv : Value) (xs : List EntV) : Prop where
  box : W.heap[w.heap.size]? = some (.cells #[sv] 33 (0, 0))
  rowd : Rowed (w.heap.size + 2) W sv xs
  same : xs.map EntV.ent = pre.map fun y => y.1.ent
  below : Below w.heap.size w W
  big : w.heap.size + 2 ≤ W.heap.size

theorem allI_own1 {w : World} {o : Option Nod} {B : Nat} {sv : Value} {xs : List EntV} (hB : w.heap.size ≤ B) : OwnFrom B (fun (pre : List (Item o)) W => AllI w pre W sv xs) := fun s W W' row h hg hr =>
  ⟨cells_own () W W' row h.box hg hr, ⟨row_own h.rowd.row hg hr, fun x hx => ⟨row_own (h.rowd.cps x hx).1 hg hr, row_own (h.rowd.cps x hx).2 hg hr⟩, h.rowd.sep⟩, h.same,
    (spares_own (S := fun _ => False) hB () W W' row (Spares.of_new h.below) hg hr).below (fun i hi => hi.elim) (Nat.le_refl _), Nat.le_trans h.big hg.size⟩

theorem allI_own {w : World} {o : Option Nod} {B : Nat} (hB : w.heap.size ≤ B) : OwnFrom B (fun (pre : List (Item o)) W => ∃ sv xs, AllI w pre W sv xs) := fun s W W' row hs hg hr => by
  obtain ⟨sv, xs, h⟩ := hs
  exact ⟨sv, xs, allI_own1 hB s W W' row h hg hr⟩

theorem AllI.new {w W W' : World} {o : Option Nod} {pre : List (Item o)} {sv : Value} {xs : List EntV} (h : AllI w pre W sv xs) (hb : Below W.heap.size W W') : AllI w pre W' sv xs :=
  ⟨(hb.block _ (by have := h.big; omega)).trans h.box, h.rowd.new hb, h.same, h.below.trans (hb.mono h.below.size), Nat.le_trans h.big hb.size⟩

theorem all_step {w W W1 W2 W3 : World} {sv kv' vv' : Value} {xs : List EntV} {o : Option Nod} {pre : List (Item o)} {B g cap : Nat} (hI : AllI w pre W sv xs) (y : Item o)
    (h1 : Below W.heap.size W W1) (hk : Copy W.heap.size W1 kv' y.1.k) (hv : Copy W.heap.size W1 vv' y.1.v) (hap : ∀ i, kv'.ownBlock = some i → vv'.ownBlock ≠ some i) (h2 : Below W1.heap.size W1 W2) (hg : W2.grownBy W3 sv.ownBlock)
    (hown : W3.ownsRow (w.heap.size + 2) 52 2 (.slice (some ⟨g, 0, none⟩) (xs.length + 1) cap) (xs.length + 1) (xs.flatMap EntV.two ++ [kv', vv'])) (hat : sv.ownBlock = some g ∨ g = W2.heap.size) :
    KeepsFrom B W (W3.setCell ⟨w.heap.size, 0, none⟩ (.slice (some ⟨g, 0, none⟩) (xs.length + 1) cap)) ∧ Below w.heap.size W (W3.setCell ⟨w.heap.size, 0, none⟩ (.slice (some ⟨g, 0, none⟩) (xs.length + 1) cap)) ∧
      ∃ sv' xs', AllI w (pre ++ [y]) (W3.setCell ⟨w.heap.size, 0, none⟩ (.slice (some ⟨g, 0, none⟩) (xs.length + 1) cap)) sv' xs' := by
  have hbig := hI.big
  have hb : Below W.heap.size W W2 := h1.trans (h2.mono h1.size)
  have hz1 := h1.size
  have hz2 := h2.size
  have hlow : ∀ i, sv.ownBlock = some i → w.heap.size + 2 ≤ i ∧ i < W.heap.size := fun i hi => hI.rowd.row.lt i hi
  have spg : Spares (fun i => sv.ownBlock = some i) W W3 := (Spares.of_new hb).andThen (Spares.of_grown (S := fun i => sv.ownBlock = some i) hg (fun k e => e)) (fun i hi => .inl hi)
  have sp : Spares (fun i => i = w.heap.size ∨ sv.ownBlock = some i) W (W3.setCell ⟨w.heap.size, 0, none⟩ (.slice (some ⟨g, 0, none⟩) (xs.length + 1) cap)) :=
    (spg.mono fun i hi => .inr hi).andThen (spares_set W3 ⟨w.heap.size, 0, none⟩ _) (fun i hi => .inl (.inl hi))
  have sp1 : Spares (fun i => i = w.heap.size ∨ sv.ownBlock = some i) W1 (W3.setCell ⟨w.heap.size, 0, none⟩ (.slice (some ⟨g, 0, none⟩) (xs.length + 1) cap)) :=
    (((Spares.of_new h2).andThen (Spares.of_grown (S := fun i => sv.ownBlock = some i) hg (fun k e => e)) (fun i hi => .inl hi)).mono fun i hi => .inr hi).andThen (spares_set W3 ⟨w.heap.size, 0, none⟩ _) (fun i hi => .inl (.inl hi))
  have hbox3 := (spg.block w.heap.size (by omega) (fun e => by have := (hlow _ e).1; omega)).trans hI.box
  have hgge : w.heap.size + 2 ≤ g := by
    rcases hat with h | h
    · exact (hlow g h).1
    · omega
  have hS : ∀ i, (i = w.heap.size ∨ sv.ownBlock = some i) → i < W.heap.size := by
    rintro i (rfl | hi)
    · omega
    · exact (hlow i hi).2
  have hS0 : ∀ i, (i = w.heap.size ∨ sv.ownBlock = some i) → w.heap.size ≤ i := by
    rintro i (rfl | hi)
    · omega
    · have := (hlow i hi).1; omega
  have hK : Copy (w.heap.size + 2) (W3.setCell ⟨w.heap.size, 0, none⟩ (.slice (some ⟨g, 0, none⟩) (xs.length + 1) cap)) kv' y.1.k := hk.spares sp1 hS (by omega)
  have hV : Copy (w.heap.size + 2) (W3.setCell ⟨w.heap.size, 0, none⟩ (.slice (some ⟨g, 0, none⟩) (xs.length + 1) cap)) vv' y.1.v := hv.spares sp1 hS (by omega)
  refine ⟨keepsFrom_of sp ?_, sp.below hS0 (by omega), .slice (some ⟨g, 0, none⟩) (xs.length + 1) cap, xs ++ [⟨kv', vv', y.1.k, y.1.v⟩], ?_⟩
  · rintro i (rfl | hi)
    · exact ⟨_, _, _, hI.box⟩
    · exact row_cells hI.rowd.row hi
  · refine ⟨heap_setCell_same _ _ _ _ _ _ hbox3, ⟨?_, ?_, ?_⟩, by simp [hI.same, EntV.ent], hI.below.trans (sp.below hS0 hI.below.size), Nat.le_trans hbig sp.size⟩
    · have e : (xs ++ [(⟨kv', vv', y.1.k, y.1.v⟩ : EntV)]).flatMap EntV.two = xs.flatMap EntV.two ++ [kv', vv'] := by simp [EntV.two]
      rw [e, List.length_append]
      exact (spares_set W3 ⟨w.heap.size, 0, none⟩ _).row hown (fun i hi e => by
        have : g = i := by simpa [Value.ownBlock] using hi
        have e' : i = w.heap.size := e
        omega)
    · intro x hx
      rcases List.mem_append.1 hx with hx | hx
      · obtain ⟨c1, c2⟩ := hI.rowd.cps x hx
        have hne : ∀ u : Value, u ∈ xs.flatMap EntV.two → ∀ bs, Copy (w.heap.size + 2) W u bs → Copy (w.heap.size + 2) (W3.setCell ⟨w.heap.size, 0, none⟩ (.slice (some ⟨g, 0, none⟩) (xs.length + 1) cap)) u bs := fun u hu bs hc =>
          sp.row hc (fun i hi hs => by
            rcases hs with rfl | hs
            · have := (hc.lt _ hi).1; omega
            · exact (List.pairwise_cons.1 hI.rowd.sep).1 u hu i hs hi)
        exact ⟨hne _ (List.mem_flatMap.2 ⟨x, hx, by simp [EntV.two]⟩) _ c1, hne _ (List.mem_flatMap.2 ⟨x, hx, by simp [EntV.two]⟩) _ c2⟩
      · simp at hx; subst hx; exact ⟨hK, hV⟩
    · have hold : ∀ u ∈ xs.flatMap EntV.two, ∀ i, u.ownBlock = some i → i < W.heap.size := fun u hu i hi => by
        obtain ⟨bs, hc⟩ := hI.rowd.mem u hu
        exact (hc.lt i hi).2
      have hkn : ∀ i, kv'.ownBlock = some i → W.heap.size ≤ i ∧ i < W1.heap.size := fun i hi => hk.lt i hi
      have hvn : ∀ i, vv'.ownBlock = some i → W.heap.size ≤ i ∧ i < W1.heap.size := fun i hi => hv.lt i hi
      obtain ⟨s1, s2⟩ := List.pairwise_cons.1 hI.rowd.sep
      have e : (xs ++ [(⟨kv', vv', y.1.k, y.1.v⟩ : EntV)]).flatMap EntV.two = xs.flatMap EntV.two ++ [kv', vv'] := by simp [EntV.two]
      rw [e]
      refine List.pairwise_cons.2 ⟨fun u hu i hi hui => ?_, List.pairwise_append.2 ⟨s2, ?_, fun u hu v hv' i hi hvi => ?_⟩⟩
      · have hgi : g = i := by simpa [Value.ownBlock] using hi
        subst hgi
        rcases List.mem_append.1 hu with hu | hu
        · rcases hat with h | h
          · exact s1 u hu g h hui
          · have := hold u hu g hui; omega
        · simp only [List.mem_cons, List.not_mem_nil, or_false] at hu
          rcases hu with rfl | rfl
          · have := hkn g hui
            rcases hat with h | h
            · have := (hlow g h).2; omega
            · omega
          · have := hvn g hui
            rcases hat with h | h
            · have := (hlow g h).2; omega
            · omega
      · simp only [List.pairwise_cons, List.mem_cons, List.not_mem_nil, or_false, forall_eq, List.Pairwise.nil, and_true, false_imp_iff, implies_true]
        exact fun i hi => hap i hi
      · have := hold u hu i hi
        simp only [List.mem_cons, List.not_mem_nil, or_false] at hv'
        rcases hv' with rfl | rfl
        · have := (hkn i hvi).1; omega
        · have := (hvn i hvi).1; omega
end Go.Proofs.YthkeofinamedfaaDoor
