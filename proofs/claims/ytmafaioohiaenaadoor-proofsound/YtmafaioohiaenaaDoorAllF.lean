/- Slices of entries as they lie in memory, in blocks of their own; nothing is walked here. -/
import Derived.Test.YtmafaioohiaenaaDoorPathF
import Derived.Lib.Bytealg
import Derived.Lib.UnsafeStr
import Derived.Deep.QuietTactic
import Derived.BigQuiet
namespace Go.Proofs.YtmafaioohiaenaaDoor
open Go.RowKit Go.Shelf
set_option linter.unusedVariables false
set_option maxRecDepth 20000

/-- An entry as it lies: its two slices, and what they show. -/
structure EntV where
  kv : Value
  vv : Value
  k : List UInt8
  v : List UInt8

def EntV.ent (x : EntV) : Ent := (x.k, x.v)
def EntV.two (x : EntV) : List Value := [x.kv, x.vv]

def Nod.items : Nod → List EntV
  | leaf _ kv vv k v => [⟨kv, vv, k, v⟩]
  | fork _ _ l r => l.items ++ r.items

theorem Nod.items_ents : ∀ x : Nod, x.items.map EntV.ent = x.tri.ents
  | leaf _ _ _ _ _ => rfl
  | fork _ _ l r => by simp [items, tri, Tri.ents, items_ents l, items_ents r]

theorem Nod.items_says : ∀ {x : Nod} {w : World}, x.Lies w → ∀ y ∈ x.items, Says w y.kv y.k ∧ Says w y.vv y.v
  | leaf _ _ _ _ _, w, h, y, hy => by simp [items] at hy; subst hy; exact h.2
  | fork _ _ l r, w, h, y, hy => by
    rcases List.mem_append.1 hy with hy | hy
    · exact items_says h.2.1 y hy
    · exact items_says h.2.2 y hy

def itemsO : Option Nod → List EntV
  | none => []
  | some x => x.items

theorem itemsO_ents (o : Option Nod) : (itemsO o).map EntV.ent = Tri.entsO (triO o) := by
  cases o with
  | none => rfl
  | some x => exact Nod.items_ents x

/-- The items of a tree. -/
abbrev Item (o : Option Nod) : Type := { y : EntV // y ∈ itemsO o }

theorem attach_map {o : Option Nod} : ∀ (l : List EntV) (h : ∀ y ∈ l, y ∈ itemsO o), ∃ q : List (Item o), q.map (·.1) = l
  | [], _ => ⟨[], rfl⟩
  | y :: l, h => by
    obtain ⟨q, hq⟩ := attach_map l (fun z hz => h z (by simp [hz]))
    exact ⟨⟨y, h y (by simp)⟩ :: q, by simp [hq]⟩

/-- The blocks of the nodes hold what they should. -/
def Nod.Rests (w : World) : Nod → Prop
  | leaf b kv vv k v => w.heap[b]? = some (.cells #[kv, vv, .int .i64 0, .pointer none, .pointer none] 98 (0, 0)) ∧ (∃ a n c, kv = .slice a n c) ∧ (∃ a n c, vv = .slice a n c)
  | fork b p l r => w.heap[b]? = some (.cells #[.slice none 0 0, .slice none 0 0, .int .i64 p, l.at', r.at'] 98 (0, 0)) ∧ l.Rests w ∧ r.Rests w

theorem Nod.rests : ∀ {x : Nod} {w : World}, x.Lies w → x.Rests w
  | leaf _ _ _ _ _, w, h => by
    obtain ⟨h0, ⟨a, c, e, _⟩, ⟨a', c', e', _⟩⟩ := h
    exact ⟨h0, ⟨_, _, _, e⟩, ⟨_, _, _, e'⟩⟩
  | fork _ _ l r, w, h => ⟨h.1, rests h.2.1, rests h.2.2⟩

theorem Nod.Rests.below : ∀ {x : Nod} {n₀ : Nat} {w w' : World}, x.Rests w → (∀ b ∈ x.blks, b < n₀) → Below n₀ w w' → x.Rests w'
  | leaf b _ _ _ _, n₀, w, w', h, hb, hw => ⟨(hw.block b (hb b (by simp [blks]))).trans h.1, h.2⟩
  | fork b _ l r, n₀, w, w', h, hb, hw => ⟨(hw.block b (hb b (by simp [blks]))).trans h.1, below h.2.1 (fun i hi => hb i (by simp [blks, hi])) hw, below h.2.2 (fun i hi => hb i (by simp [blks, hi])) hw⟩

/-- No two share a block. -/
def Sep (vs : List Value) : Prop := vs.Pairwise fun u v => ∀ g, u.ownBlock = some g → v.ownBlock ≠ some g

/-- A SLICE OF ENTRIES, all in blocks of their own from B on. -/
structure Rowed (B : Nat) (W : World) (sv : Value) (xs : List EntV) : Prop where
  row : W.ownsRow B 26 2 sv xs.length (xs.flatMap EntV.two)
  cps : ∀ x ∈ xs, Copy B W x.kv x.k ∧ Copy B W x.vv x.v
  sep : Sep (sv :: xs.flatMap EntV.two)

theorem rowed_nil (B : Nat) (W : World) : Rowed B W (.slice none 0 0) [] := ⟨World.ownsRow_nil _ _ _ _, fun x hx => (by cases hx), by simp [Sep]⟩

theorem Rowed.mem {B : Nat} {W : World} {sv : Value} {xs : List EntV} (h : Rowed B W sv xs) (u : Value) (hu : u ∈ xs.flatMap EntV.two) : ∃ bs, Copy B W u bs := by
  obtain ⟨x, hx, hu⟩ := List.mem_flatMap.1 hu
  simp only [EntV.two, List.mem_cons, List.not_mem_nil, or_false] at hu
  rcases hu with rfl | rfl
  · exact ⟨_, (h.cps x hx).1⟩
  · exact ⟨_, (h.cps x hx).2⟩

theorem Rowed.new {B : Nat} {W W' : World} {sv : Value} {xs : List EntV} (h : Rowed B W sv xs) (hb : Below W.heap.size W W') : Rowed B W' sv xs :=
  ⟨(Spares.of_new (S := fun _ => False) hb).row h.row (fun _ _ => id), fun x hx => ⟨(h.cps x hx).1.new hb, (h.cps x hx).2.new hb⟩, h.sep⟩

theorem Rowed.lower {B B' : Nat} {W : World} {sv : Value} {xs : List EntV} (h : Rowed B W sv xs) (hB : B' ≤ B) : Rowed B' W sv xs :=
  ⟨owns_lower h.row (fun g hg => Nat.le_trans hB (h.row.lt g hg).1), fun x hx => ⟨owns_lower (h.cps x hx).1 (fun g hg => Nat.le_trans hB ((h.cps x hx).1.lt g hg).1), owns_lower (h.cps x hx).2 (fun g hg => Nat.le_trans hB ((h.cps x hx).2.lt g hg).1)⟩, h.sep⟩

/-- What a walk over all entries has in hand: the row's box, the row. -/
structure AllI (w : World) {o : Option Nod} (pre : List (Item o)) (W : World) (sv : Value) (xs : List EntV) : Prop where
  box : W.heap[w.heap.size]? = some (.cells #[sv] 51 (0, 0))
  rowd : Rowed (w.heap.size + 2) W sv xs
  same : xs.map EntV.ent = pre.map fun y => y.1.ent
  below : Below w.heap.size w W
  big : w.heap.size + 2 ≤ W.heap.size

theorem allI_own1 {w : World} {o : Option Nod} {B : Nat} {sv : Value} {xs : List EntV} (hB : w.heap.size ≤ B) : OwnFrom B (fun (pre : List (Item o)) W => AllI w pre W sv xs) := fun s W W' row h hg hr =>
  ⟨cells_own () W W' row h.box hg hr, ⟨row_own h.rowd.row hg hr, fun x hx => ⟨row_own (h.rowd.cps x hx).1 hg hr, row_own (h.rowd.cps x hx).2 hg hr⟩, h.rowd.sep⟩, h.same,
    (spares_own (S := fun _ => False) hB () W W' row (Spares.of_new h.below) hg hr).below (fun i hi => hi.elim) (Nat.le_refl _), Nat.le_trans h.big hg.size⟩

theorem allI_own {w : World} {o : Option Nod} {B : Nat} (hB : w.heap.size ≤ B) : OwnFrom B (fun (pre : List (Item o)) W => ∃ sv xs, AllI w pre W sv xs) := fun s W W' row hs hg hr => by
  obtain ⟨sv, xs, h⟩ := hs
  exact ⟨sv, xs, allI_own1 hB s W W' row h hg hr⟩

theorem AllI.new {w W W' : World} {o : Option Nod} {pre : List (Item o)} {sv : Value} {xs : List EntV} (h : AllI w pre W sv xs) (hb : Below W.heap.size W W') : AllI w pre W' sv xs :=
  ⟨(hb.block _ (by have := h.big; omega)).trans h.box, h.rowd.new hb, h.same, h.below.trans (hb.mono h.below.size), Nat.le_trans h.big hb.size⟩

theorem all_step {w W W1 W2 W3 : World} {sv kv' vv' : Value} {xs : List EntV} {o : Option Nod} {pre : List (Item o)} {B g cap : Nat} (hI : AllI w pre W sv xs) (y : Item o)
    (h1 : Below W.heap.size W W1) (hk : Copy W.heap.size W1 kv' y.1.k) (hv : Copy W.heap.size W1 vv' y.1.v) (hap : ∀ i, kv'.ownBlock = some i → vv'.ownBlock ≠ some i) (h2 : Below W1.heap.size W1 W2) (hg : W2.grownBy W3 sv.ownBlock)
    (hown : W3.ownsRow (w.heap.size + 2) 26 2 (.slice (some ⟨g, 0, none⟩) (xs.length + 1) cap) (xs.length + 1) (xs.flatMap EntV.two ++ [kv', vv'])) (hat : sv.ownBlock = some g ∨ g = W2.heap.size) :
    KeepsFrom B W (W3.setCell ⟨w.heap.size, 0, none⟩ (.slice (some ⟨g, 0, none⟩) (xs.length + 1) cap)) ∧ Below w.heap.size W (W3.setCell ⟨w.heap.size, 0, none⟩ (.slice (some ⟨g, 0, none⟩) (xs.length + 1) cap)) ∧
      ∃ sv' xs', AllI w (pre ++ [y]) (W3.setCell ⟨w.heap.size, 0, none⟩ (.slice (some ⟨g, 0, none⟩) (xs.length + 1) cap)) sv' xs' := by
  have hbig := hI.big
  have hb : Below W.heap.size W W2 := h1.trans (h2.mono h1.size)
  have hz1 := h1.size
  have hz2 := h2.size
  have hlow : ∀ i, sv.ownBlock = some i → w.heap.size + 2 ≤ i ∧ i < W.heap.size := fun i hi => hI.rowd.row.lt i hi
  have spg : Spares (fun i => sv.ownBlock = some i) W W3 := (Spares.of_new hb).andThen (Spares.of_grown (S := fun i => sv.ownBlock = some i) hg (fun k e => e)) (fun i hi => .inl hi)
  have sp : Spares (fun i => i = w.heap.size ∨ sv.ownBlock = some i) W (W3.setCell ⟨w.heap.size, 0, none⟩ (.slice (some ⟨g, 0, none⟩) (xs.length + 1) cap)) :=
    (spg.mono fun i hi => .inr hi).andThen (spares_set W3 ⟨w.heap.size, 0, none⟩ _) (fun i hi => .inl (.inl hi))
  have sp1 : Spares (fun i => i = w.heap.size ∨ sv.ownBlock = some i) W1 (W3.setCell ⟨w.heap.size, 0, none⟩ (.slice (some ⟨g, 0, none⟩) (xs.length + 1) cap)) :=
    (((Spares.of_new h2).andThen (Spares.of_grown (S := fun i => sv.ownBlock = some i) hg (fun k e => e)) (fun i hi => .inl hi)).mono fun i hi => .inr hi).andThen (spares_set W3 ⟨w.heap.size, 0, none⟩ _) (fun i hi => .inl (.inl hi))
  have hbox3 := (spg.block w.heap.size (by omega) (fun e => by have := (hlow _ e).1; omega)).trans hI.box
  have hgge : w.heap.size + 2 ≤ g := by
    rcases hat with h | h
    · exact (hlow g h).1
    · omega
  have hS : ∀ i, (i = w.heap.size ∨ sv.ownBlock = some i) → i < W.heap.size := by
    rintro i (rfl | hi)
    · omega
    · exact (hlow i hi).2
  have hS0 : ∀ i, (i = w.heap.size ∨ sv.ownBlock = some i) → w.heap.size ≤ i := by
    rintro i (rfl | hi)
    · omega
    · have := (hlow i hi).1; omega
  have hK : Copy (w.heap.size + 2) (W3.setCell ⟨w.heap.size, 0, none⟩ (.slice (some ⟨g, 0, none⟩) (xs.length + 1) cap)) kv' y.1.k := hk.spares sp1 hS (by omega)
  have hV : Copy (w.heap.size + 2) (W3.setCell ⟨w.heap.size, 0, none⟩ (.slice (some ⟨g, 0, none⟩) (xs.length + 1) cap)) vv' y.1.v := hv.spares sp1 hS (by omega)
  refine ⟨keepsFrom_of sp ?_, sp.below hS0 (by omega), .slice (some ⟨g, 0, none⟩) (xs.length + 1) cap, xs ++ [⟨kv', vv', y.1.k, y.1.v⟩], ?_⟩
  · rintro i (rfl | hi)
    · exact ⟨_, _, _, hI.box⟩
    · exact row_cells hI.rowd.row hi
  · refine ⟨heap_setCell_same _ _ _ _ _ _ hbox3, ⟨?_, ?_, ?_⟩, by simp [hI.same, EntV.ent], hI.below.trans (sp.below hS0 hI.below.size), Nat.le_trans hbig sp.size⟩
    · have e : (xs ++ [(⟨kv', vv', y.1.k, y.1.v⟩ : EntV)]).flatMap EntV.two = xs.flatMap EntV.two ++ [kv', vv'] := by simp [EntV.two]
      rw [e, List.length_append]
      exact (spares_set W3 ⟨w.heap.size, 0, none⟩ _).row hown (fun i hi e => by
        have : g = i := by simpa [Value.ownBlock] using hi
        have e' : i = w.heap.size := e
        omega)
    · intro x hx
      rcases List.mem_append.1 hx with hx | hx
      · obtain ⟨c1, c2⟩ := hI.rowd.cps x hx
        have hne : ∀ u : Value, u ∈ xs.flatMap EntV.two → ∀ bs, Copy (w.heap.size + 2) W u bs → Copy (w.heap.size + 2) (W3.setCell ⟨w.heap.size, 0, none⟩ (.slice (some ⟨g, 0, none⟩) (xs.length + 1) cap)) u bs := fun u hu bs hc =>
          sp.row hc (fun i hi hs => by
            rcases hs with rfl | hs
            · have := (hc.lt _ hi).1; omega
            · exact (List.pairwise_cons.1 hI.rowd.sep).1 u hu i hs hi)
        exact ⟨hne _ (List.mem_flatMap.2 ⟨x, hx, by simp [EntV.two]⟩) _ c1, hne _ (List.mem_flatMap.2 ⟨x, hx, by simp [EntV.two]⟩) _ c2⟩
      · simp at hx; subst hx; exact ⟨hK, hV⟩
    · have hold : ∀ u ∈ xs.flatMap EntV.two, ∀ i, u.ownBlock = some i → i < W.heap.size := fun u hu i hi => by
        obtain ⟨bs, hc⟩ := hI.rowd.mem u hu
        exact (hc.lt i hi).2
      have hkn : ∀ i, kv'.ownBlock = some i → W.heap.size ≤ i ∧ i < W1.heap.size := fun i hi => hk.lt i hi
      have hvn : ∀ i, vv'.ownBlock = some i → W.heap.size ≤ i ∧ i < W1.heap.size := fun i hi => hv.lt i hi
      obtain ⟨s1, s2⟩ := List.pairwise_cons.1 hI.rowd.sep
      have e : (xs ++ [(⟨kv', vv', y.1.k, y.1.v⟩ : EntV)]).flatMap EntV.two = xs.flatMap EntV.two ++ [kv', vv'] := by simp [EntV.two]
      rw [e]
      refine List.pairwise_cons.2 ⟨fun u hu i hi hui => ?_, List.pairwise_append.2 ⟨s2, ?_, fun u hu v hv' i hi hvi => ?_⟩⟩
      · have hgi : g = i := by simpa [Value.ownBlock] using hi
        subst hgi
        rcases List.mem_append.1 hu with hu | hu
        · rcases hat with h | h
          · exact s1 u hu g h hui
          · have := hold u hu g hui; omega
        · simp only [List.mem_cons, List.not_mem_nil, or_false] at hu
          rcases hu with rfl | rfl
          · have := hkn g hui
            rcases hat with h | h
            · have := (hlow g h).2; omega
            · omega
          · have := hvn g hui
            rcases hat with h | h
            · have := (hlow g h).2; omega
            · omega
      · simp only [List.pairwise_cons, List.mem_cons, List.not_mem_nil, or_false, forall_eq, List.Pairwise.nil, and_true, false_imp_iff, implies_true]
        exact fun i hi => hap i hi
      · have := hold u hu i hi
        simp only [List.mem_cons, List.not_mem_nil, or_false] at hv'
        rcases hv' with rfl | rfl
        · have := (hkn i hvi).1; omega
        · have := (hvn i hvi).1; omega
end Go.Proofs.YtmafaioohiaenaaDoor

/- Contracts of trie.Tree.entries (an iterator) and trie.Tree.All. -/

namespace Go.Proofs.YtmafaioohiaenaaDoor
open Go.RowKit Go.Shelf
set_option linter.unusedVariables false
set_option linter.unusedSimpArgs false
set_option maxRecDepth 20000
attribute [local go_sem] Oper.semAt_some

theorem roundIn_any {m m' : Nat} {P : Program} {l : Nat} {f : FuncId} {tmps : Array Value} {assign body : Code} {w : World} {R : Ending → World → Prop}
    (h : RoundIn Fence.wide m P l f tmps assign body w R) : RoundIn Fence.wide m' P l f tmps assign body w R := ⟨h.1, fun c cs _ => h.2 c cs (fun d h => by cases h)⟩

theorem yieldAt_any {m : Nat} (m' : Nat) {P : Program} {l : Nat} {args : Array Value} {W : World} {R : Ending → World → Prop} (h : YieldAt Fence.wide m P l args W R) : YieldAt Fence.wide m' P l args W R := by
  obtain ⟨fn, tmps, assign, body, hy, hR⟩ := h
  exact ⟨fn, tmps, assign, body, hy, roundIn_any hR⟩

set_option maxHeartbeats 4000000 in
/-- 'n.tell(yield)': the entries of a node's leaves come, from left to right. -/
theorem tell_in (l n₀ N : Nat) {o : Option Nod} (J Jx : List (Item o) → World → Prop)
    (hY : ∀ (m : Nat) (pre : List (Item o)) (y : Item o) (W : World), J pre W → pre.length < N → YieldAt Fence.wide m Tryd.prog l #[.agg #[y.1.kv, y.1.vv]] W fun e W' =>
      (e = .returned (.bool true) ∧ J (pre ++ [y]) W' ∧ Below n₀ W W') ∨ (e = .returned (.bool false) ∧ Jx (pre ++ [y]) W')) (x : Nod) :
    ∀ (hx : ∀ y ∈ x.items, y ∈ itemsO o) (n : Nat) (pre : List (Item o)) (W : World), x.Rests W → (∀ b ∈ x.blks, b < n₀) → J pre W → pre.length + x.items.length ≤ N →
      CallsIn Fence.wide n Tryd.prog 100 #[x.at', .func (.yield l) #[] #[]] W fun e W' =>
        (e = .returned (.bool true) ∧ (∃ q : List (Item o), q.map (·.1) = x.items ∧ J (pre ++ q) W') ∧ Below n₀ W W') ∨ (e = .returned (.bool false) ∧ ∃ q : List (Item o), q.map (·.1) <+: x.items ∧ Jx (pre ++ q) W') := by
  induction x with
  | leaf b kv vv k v =>
    intro hx n pre W hr hb hJ hN
    obtain ⟨hblk, ⟨a1, n1, c1, rfl⟩, ⟨a2, n2, c2, rfl⟩⟩ := hr
    have hm : (⟨.slice a1 n1 c1, .slice a2 n2 c2, k, v⟩ : EntV) ∈ itemsO o := hx _ (by simp [Nod.items])
    have h3 : W.cell? ⟨b, 3, none⟩ = some (.pointer none) := by rw [cell_of_row _ b _ _ _ _ hblk]; rfl
    have h0 : W.cell? ⟨b, 0, none⟩ = some (.slice a1 n1 c1) := by rw [cell_of_row _ b _ _ _ _ hblk]; rfl
    have h1 : W.cell? ⟨b, 1, none⟩ = some (.slice a2 n2 c2) := by rw [cell_of_row _ b _ _ _ _ hblk]; rfl
    have hL := isLeaf_any b none W h3
    obtain ⟨fn, tmps, assign, body, hy, hR⟩ := hY (n - 1) pre ⟨_, hm⟩ W hJ (by simp [Nod.items] at hN; omega)
    simp only [Nod.at']
    rw [show (Nod.leaf b (.slice a1 n1 c1) (.slice a2 n2 c2) k v).blk = b from rfl]
    simp only [Option.isNone_none] at hL
    refine callsIn_of_wp Tryd.func100 rfl trivial ?_ rfl
    simp only [Tryd.ntmps100, List.size_toArray, List.length_cons, List.length_nil, Nat.reduceAdd, Nat.reduceSub, Array.replicate_succ, Array.replicate_zero, List.push_toArray, List.append_toArray, List.nil_append, List.cons_append]
    gi_wp2_with (first
      | (refine ⟨trivial, fun h => (by cases h), ?_⟩; gi_at_call 94; refine (callsIn_wide.2 hL).mono ?_; clear hL; rintro e w' ⟨rfl, rfl⟩)
      | (refine ⟨fun h => (by cases h), hR.mono ?_⟩; clear hR; rintro e W2 (⟨rfl, hJ2, hb2⟩ | ⟨rfl, hx2⟩)))
    · go_ret
      exact .inl ⟨rfl, ⟨[⟨_, hm⟩], rfl, hJ2⟩, hb2⟩
    · go_ret
      exact .inr ⟨rfl, [⟨_, hm⟩], List.prefix_refl _, hx2⟩
  | fork b p xl xr ihl ihr =>
    intro hx n pre W hr hb hJ hN
    obtain ⟨hblk, hl, hr'⟩ := hr
    have hbb : b < n₀ := hb b (by simp [Nod.blks])
    have hbl : ∀ i ∈ xl.blks, i < n₀ := fun i hi => hb i (by simp [Nod.blks, hi])
    have hbr : ∀ i ∈ xr.blks, i < n₀ := fun i hi => hb i (by simp [Nod.blks, hi])
    simp only [Nod.items, List.length_append] at hN
    have h3 : W.cell? ⟨b, 3, none⟩ = some xl.at' := by rw [cell_of_row _ b _ _ _ _ hblk]; rfl
    have h4 : W.cell? ⟨b, 4, none⟩ = some xr.at' := by rw [cell_of_row _ b _ _ _ _ hblk]; rfl
    have hL := isLeaf_any b (some ⟨xl.blk, 0, none⟩) W h3
    simp only [Option.isNone_some] at hL
    have ih1 := (ihl (fun y hy => hx y (by simp [Nod.items, hy])) (n - 1) pre W hl hbl hJ (by omega)).mono (R' := fun e W1 =>
        (e = .returned (.bool true) ∧ W1.cell? ⟨b, 4, none⟩ = some xr.at' ∧ CallsIn Fence.wide (n - 1) Tryd.prog 100 #[xr.at', .func (.yield l) #[] #[]] W1 fun e W' =>
          (e = .returned (.bool true) ∧ (∃ q : List (Item o), q.map (·.1) = (Nod.fork b p xl xr).items ∧ J (pre ++ q) W') ∧ Below n₀ W W') ∨ (e = .returned (.bool false) ∧ ∃ q : List (Item o), q.map (·.1) <+: (Nod.fork b p xl xr).items ∧ Jx (pre ++ q) W')) ∨
        (e = .returned (.bool false) ∧ ∃ q : List (Item o), q.map (·.1) <+: (Nod.fork b p xl xr).items ∧ Jx (pre ++ q) W1))
      (fun e W1 h => h.elim (fun ⟨he, ⟨q, hq, hj⟩, hb1⟩ => .inl ⟨he, (hb1.cell (p := ⟨b, 4, none⟩) hbb).trans h4, (ihr (fun y hy => hx y (by simp [Nod.items, hy])) (n - 1) (pre ++ q) W1 (hr'.below hbr hb1) hbr hj (by have := congrArg List.length hq; simp at this ⊢; omega)).mono (fun e W2 h2 => h2.elim
          (fun ⟨he2, ⟨q2, hq2, hj2⟩, hb2⟩ => .inl ⟨he2, ⟨q ++ q2, by simp [hq, hq2, Nod.items], by rw [← List.append_assoc]; exact hj2⟩, hb1.trans hb2⟩)
          (fun ⟨he2, q2, hq2, hj2⟩ => .inr ⟨he2, q ++ q2, by rw [List.map_append, hq]; exact (List.prefix_append_right_inj _).2 hq2, by rw [← List.append_assoc]; exact hj2⟩))⟩)
        (fun ⟨he, q, hq, hj⟩ => .inr ⟨he, q, hq.trans (List.prefix_append _ _), hj⟩))
    clear ihl ihr hl hr' hJ hY
    simp only [Nod.at'] at h3 h4 ih1 ⊢
    rw [show (Nod.fork b p xl xr).blk = b from rfl]
    obtain ⟨bl, hbl'⟩ : ∃ bl, xl.blk = bl := ⟨_, rfl⟩
    obtain ⟨br, hbr'⟩ : ∃ br, xr.blk = br := ⟨_, rfl⟩
    rw [hbl'] at h3 ih1
    rw [hbr'] at h4 ih1
    clear hbl' hbr' hblk
    generalize (Nod.fork b p xl xr).items = its at *
    refine callsIn_of_wp Tryd.func100 rfl trivial ?_ rfl
    simp only [Tryd.ntmps100, List.size_toArray, List.length_cons, List.length_nil, Nat.reduceAdd, Nat.reduceSub, Array.replicate_succ, Array.replicate_zero, List.push_toArray, List.append_toArray, List.nil_append, List.cons_append]
    gi_wp2_with (first
      | (refine ⟨trivial, fun h => (by cases h), ?_⟩; gi_at_call 94; refine (callsIn_wide.2 hL).mono ?_; clear hL; rintro e w' ⟨rfl, rfl⟩)
      | (refine ⟨trivial, fun h => (by cases h), ?_⟩; gi_at_call 100; refine ih1.mono ?_; clear ih1; rintro e W1 (⟨rfl, c1, ih2⟩ | ⟨rfl, hx1⟩))
      | (refine ⟨trivial, fun h => (by cases h), ?_⟩; gi_at_call 100; refine ih2.mono ?_; clear ih2; rintro e W2 (⟨rfl, hj2, hb2⟩ | ⟨rfl, hx2⟩)))
    · go_ret
      exact .inl ⟨rfl, hj2, hb2⟩
    · go_ret
      exact .inr ⟨rfl, hx2⟩
    · refine ⟨trivial, ?_⟩
      gi_wp2
      go_ret
      exact .inr ⟨rfl, hx1⟩

set_option maxHeartbeats 2000000 in
/-- 't.entries()': the tree's pointer is boxed. -/
theorem entries_any (tb : Nat) (w : World) :
    Calls Tryd.prog 69 #[.pointer (some ⟨tb, 0, none⟩)] w fun e w' => e = .returned (.func (.func 99) #[] #[.pointer (some ⟨w.heap.size, 0, none⟩)]) ∧ w' = w.alloc (.cells #[.pointer (some ⟨tb, 0, none⟩)] 52) := by
  go_enter Tryd.func69, Tryd.ntmps69
  go_wp2
  go_ret
  exact ⟨rfl, rfl⟩

set_option maxHeartbeats 4000000 in
theorem entries1_in (n l bt n₀ tb : Nat) (o : Option Nod) (J Jx : List (Item o) → World → Prop)
    (hY : ∀ (pre : List (Item o)) (y : Item o) (W : World), J pre W → pre.length < (itemsO o).length → YieldAt Fence.wide (n - 1) Tryd.prog l #[.agg #[y.1.kv, y.1.vv]] W fun e W' =>
      (e = .returned (.bool true) ∧ J (pre ++ [y]) W' ∧ Below n₀ W W') ∨ (e = .returned (.bool false) ∧ Jx (pre ++ [y]) W'))
    (W : World) (hbt : W.cell? ⟨bt, 0, none⟩ = some (.pointer (some ⟨tb, 0, none⟩))) (ht : TreeAt W tb o) (hown : ∀ b, own tb o b → b < n₀) (h0 : J [] W) :
    CallsIn Fence.wide n Tryd.prog 99 #[.func (.yield l) #[] #[], .pointer (some ⟨bt, 0, none⟩)] W fun e W' => (∃ v, e = .returned v) ∧
      ((∃ ys : List (Item o), ys.map (·.1) = itemsO o ∧ J ys W') ∨ (∃ pre : List (Item o), pre.map (·.1) <+: itemsO o ∧ Jx pre W')) := by
  have hh0 : W.cell? ⟨tb, 0, none⟩ = some (.pointer (topOf o)) := by rw [cell_of_row _ _ _ _ _ _ ht.head]; rfl
  cases o with
  | none =>
    simp only [topOf] at hh0
    refine callsIn_of_wp Tryd.func99 rfl trivial ?_ rfl
    simp only [Tryd.ntmps99, List.size_toArray, List.length_cons, List.length_nil, Nat.reduceAdd, Nat.reduceSub, Array.replicate_succ, Array.replicate_zero, List.push_toArray, List.append_toArray, List.nil_append, List.cons_append]
    gi_wp2
    go_end0
    exact ⟨⟨_, rfl⟩, .inl ⟨[], rfl, h0⟩⟩
  | some x =>
    simp only [topOf] at hh0
    have HT := tell_in l n₀ x.items.length J Jx (fun m pre y W h1 h2 => yieldAt_any m (hY pre y W h1 h2)) x (fun y hy => hy) (n - 1) [] W (Nod.rests (ht.lies x rfl)) (fun b hb => hown b (.inr ⟨x, rfl, hb⟩)) h0 (by simp)
    simp only [Nod.at'] at HT
    obtain ⟨b0, hb0⟩ : ∃ b0, x.blk = b0 := ⟨_, rfl⟩
    rw [hb0] at hh0 HT
    clear hb0 hY h0
    refine callsIn_of_wp Tryd.func99 rfl trivial ?_ rfl
    simp only [Tryd.ntmps99, List.size_toArray, List.length_cons, List.length_nil, Nat.reduceAdd, Nat.reduceSub, Array.replicate_succ, Array.replicate_zero, List.push_toArray, List.append_toArray, List.nil_append, List.cons_append]
    gi_wp2_with (refine ⟨trivial, fun h => (by cases h), ?_⟩; gi_at_call 100; refine HT.mono ?_; clear HT; rintro e W1 (⟨rfl, ⟨q, hq, hj⟩, _⟩ | ⟨rfl, q, hq, hj⟩))
    · go_end0
      exact ⟨⟨_, rfl⟩, .inl ⟨q, hq, by simpa using hj⟩⟩
    · go_end0
      exact ⟨⟨_, rfl⟩, .inr ⟨q, hq, by simpa using hj⟩⟩

theorem entries_stops (n bt n₀ tb : Nat) (o : Option Nod) (w : World) (hbt : w.cell? ⟨bt, 0, none⟩ = some (.pointer (some ⟨tb, 0, none⟩))) (ht : TreeAt w tb o) (hown : ∀ b, own tb o b → b < n₀) (hn : n₀ ≤ w.heap.size) :
    SeqStopsK Fence.wide n Tryd.prog 99 #[.pointer (some ⟨bt, 0, none⟩)] (fun y : Item o => #[.agg #[y.1.kv, y.1.vv]]) (Below n₀) (fun ys => ys.map (·.1) = itemsO o) (fun pre => pre.map (·.1) <+: itemsO o) (itemsO o).length w :=
  fun l J Jx W hW _ _ hY h0 =>
    entries1_in n l bt n₀ tb o J Jx hY W ((hW.cell (p := ⟨bt, 0, none⟩) (World.block_lt_of_cell? _ _ hbt)).trans hbt) (ht.new hW) hown h0

theorem Tryd.infoEntryZ : (Tryd.prog.info? 26).map (fun i => (i.zero, i.size, i.bytes)) = some (some (.agg #[.slice none 0 0, .slice none 0 0]), 2, 48) := by kernel_rfl
theorem Tryd.infoEntries : (Tryd.prog.info? 51).map (·.size) = some 1 := by kernel_rfl

set_option maxHeartbeats 4000000 in
theorem all_any (tb : Nat) (o : Option Nod) (w : World) (ht : TreeAt w tb o) (hn : (Tri.entsO (triO o)).length < 1000000000) :
    Calls Tryd.prog 30 #[.pointer (some ⟨tb, 0, none⟩)] w fun e w' => ∃ sv xs, e = .returned sv ∧ Rowed w.heap.size w' sv xs ∧ xs.map EntV.ent = Tri.entsO (triO o) ∧ Below w.heap.size w w' := by
  refine (callsIn_wide (n := 3)).1 ?_
  refine callsIn_of_wp_marks Tryd.func30 rfl trivial ?_ rfl
  simp only [Tryd.ntmps30, List.size_toArray, List.length_cons, List.length_nil, Nat.reduceAdd, Nat.reduceSub, Array.replicate_succ, Array.replicate_zero, List.push_toArray, List.append_toArray, List.nil_append, List.cons_append]
  gi_wp2_with (refine ⟨trivial, ?_⟩; gi_at_call 69; refine (callsIn_wide.2 (entries_any _ _)).mono ?_; rintro e w' ⟨rfl, rfl⟩)
  obtain ⟨c0, c1, hB0, hsz⟩ := alloc2 w (.cells #[.slice none 0 0] 51) (.cells #[.pointer (some ⟨tb, 0, none⟩)] 52)
  generalize (w.alloc (.cells #[.slice none 0 0] 51)).alloc (.cells #[.pointer (some ⟨tb, 0, none⟩)] 52) = w2 at *
  have ht2 := ht.new hB0
  refine wpIn_rangeFunc_ownH rfl (by omega) (gf := 99) (lb := #[.pointer (some ⟨w.heap.size + 1, 0, none⟩)]) rfl trivial (enters_of Tryd.func99 (by kernel_rfl) rfl)
    (entries_stops _ (w.heap.size + 1) w.heap.size tb o w2 (by rw [cell_of_row _ _ _ _ _ _ c1]; rfl) ht2 ht.lt (by omega)) belowK_t (belowK_b (by omega)) (Below.refl _ _) (fun _ => rfl)
    (fun pre W => ∃ sv xs, AllI w pre W sv xs)
    (fun _ _ _ => False)
    (allI_own (by omega))
    (fun _ _ _ _ _ hs _ _ => hs)
    ⟨.slice none 0 0, [], c0, rowed_nil _ _, rfl, hB0, by omega⟩
    (fun y a' W => ∃ eb, a' = { tmps := #[.pointer (some ⟨tb, 0, none⟩), undef, .slice none 0 0, .pointer (some ⟨w.heap.size, 0, none⟩), .pointer (some ⟨eb, 0, none⟩), .pointer (some ⟨tb, 0, none⟩), .func (.func 99) #[] #[.pointer (some ⟨w.heap.size + 1, 0, none⟩)], .agg #[y.1.kv, y.1.vv], undef, undef, undef, undef, undef, undef], defers := [] } ∧ W.heap[eb]? = some (.cells #[y.1.kv, y.1.vv] 26 (0, 0)) ∧ w.heap.size + 2 ≤ eb ∧ ∃ sv, W.heap[w.heap.size]? = some (.cells #[sv] 51 (0, 0)) ∧ sv.ownBlock ≠ some eb)
    (fun y a' s W W' row hs hg hr => by
      obtain ⟨eb, h1, h2, h3, sv, h4, h5⟩ := hs
      exact ⟨eb, h1, cells_own () W W' row h2 hg hr, h3, sv, cells_own () W W' row h4 hg hr, h5⟩)
    ?assign ?body ?done ?stop
  case stop =>
    rintro D cd pre W _ _ h _
    exact h.elim
  case assign =>
    rintro l pre ⟨y, hy⟩ W K ⟨sv, xs, hI⟩ hK
    have hsy : (∃ a n c, y.kv = .slice a n c) ∧ (∃ a n c, y.vv = .slice a n c) := by
      cases o with
      | none => cases hy
      | some X =>
        obtain ⟨⟨a, c, e, _⟩, ⟨a', c', e', _⟩⟩ := Nod.items_says (ht.lies X rfl) y hy
        exact ⟨⟨_, _, _, e⟩, ⟨_, _, _, e'⟩⟩
    obtain ⟨kv, vv, k, v⟩ := y
    obtain ⟨⟨a1, n1, c1, rfl⟩, ⟨a2, n2, c2, rfl⟩⟩ := hsy
    have hnew := World.alloc_heap_new W (.cells #[.slice none 0 0, .slice none 0 0] 26)
    have hbA : Below W.heap.size W (W.alloc (.cells #[.slice none 0 0, .slice none 0 0] 26)) := (Below.refl _ _).alloc (Nat.le_refl _) _
    have q0 : (W.alloc (.cells #[.slice none 0 0, .slice none 0 0] 26)).cell? ⟨W.heap.size, 0, none⟩ = some (.slice none 0 0) := by rw [cell_of_row _ _ _ _ _ _ hnew]; rfl
    have q1 : (W.alloc (.cells #[.slice none 0 0, .slice none 0 0] 26)).cell? ⟨W.heap.size, 1, none⟩ = some (.slice none 0 0) := by rw [cell_of_row _ _ _ _ _ _ hnew]; rfl
    have HI := hid hI
    have HK := hid hK
    clear hI hK
    have hbN : Below W.heap.size W (W.alloc (.cells #[.slice a1 n1 c1, .slice a2 n2 c2] 26)) := (Below.refl _ _).alloc (Nat.le_refl _) _
    gi_wp2
    exact HK.out _ _ (keepsFrom_of (S := fun _ => False) (Spares.of_new hbN) (fun i h => h.elim)) (hbN.mono HI.out.below.size) ⟨sv, xs, HI.out.new hbN⟩ ⟨W.heap.size, rfl, World.alloc_heap_new _ _, HI.out.big, sv, (HI.out.new hbN).box, fun e => by have := (HI.out.rowd.row.lt _ e).2; omega⟩
  case done =>
    rintro D ys W hD hS ⟨sv, xs, hI⟩ hK
    have g0 : W.cell? ⟨w.heap.size, 0, none⟩ = some sv := by rw [cell_of_row _ _ _ _ _ _ hI.box]; rfl
    obtain ⟨a5, n5, c5', rfl⟩ : ∃ a n c, sv = .slice a n c := by
      rcases hI.rowd.row.2 with ⟨rfl, _⟩ | ⟨g, cap, cur, rfl, _⟩
      · exact ⟨none, 0, 0, rfl⟩
      · exact ⟨_, _, _, rfl⟩
    have HI := hid ((allI_own1 (Nat.le_refl _)).putObj (.deferred none) hI (by omega) hK rfl)
    clear hI
    gi_wp2
    refine ⟨by simp, .inl ⟨_, _, rfl, run_takeDeferred hK, ?_⟩⟩
    refine ⟨_, results_tmp (t := 2) rfl _ _ _, _, xs, rfl, HI.out.rowd.lower (Nat.le_add_right _ _), ?_, HI.out.below⟩
    have e : ys.map (fun y => y.1.ent) = (ys.map (·.1)).map EntV.ent := by rw [List.map_map]; rfl
    rw [HI.out.same, ← itemsO_ents, e, hS]
  case body =>
    rintro l pre ⟨y, hy⟩ a' W hl0 _ ⟨sv, xs, hI⟩ ⟨eb, rfl, heb, hebl, sv', hsv1, hsv2⟩ hlt
    have HNE : Hid (sv.ownBlock ≠ some eb) := hid (by
      rw [hI.box] at hsv1
      simp only [Option.some.injEq, Obj.cells.injEq, and_true, Array.mk.injEq, List.cons.injEq] at hsv1
      rw [hsv1]; exact hsv2)
    have hy0 := hy
    obtain ⟨hsk, hsv⟩ : Says W y.kv y.k ∧ Says W y.vv y.v := by
      cases o with
      | none => cases hy
      | some X => exact ⟨(Nod.items_says (ht.lies X rfl) y hy).1.new hI.below, (Nod.items_says (ht.lies X rfl) y hy).2.new hI.below⟩
    have hsh : Tri.short y.ent := by
      cases o with
      | none => cases hy
      | some X => exact Tri.short_of X.tri ht.wf _ (by rw [← Nod.items_ents]; exact List.mem_map_of_mem hy)
    obtain ⟨kv, vv, k, v⟩ := y
    simp only at hsk hsv heb ⊢
    obtain ⟨ak, ck, rfl, _⟩ := id hsk
    obtain ⟨av, cv, rfl, _⟩ := id hsv
    have HI := hid hI
    have hbig := hI.big
    have hebz : eb < W.heap.size := (Array.getElem?_eq_some_iff.1 heb).1
    have hS0 : (fun W' : World => W'.cell? ⟨w.heap.size, 0, none⟩ = some sv ∧ W'.cell? ⟨eb, 0, none⟩ = some (.slice ak k.length ck) ∧ W'.cell? ⟨eb, 1, none⟩ = some (.slice av v.length cv)) W.drew := ⟨by show W.cell? _ = _; rw [cell_of_row _ _ _ _ _ _ hI.box]; rfl, by show W.cell? _ = _; rw [cell_of_row _ _ _ _ _ _ heb]; rfl, by show W.cell? _ = _; rw [cell_of_row _ _ _ _ _ _ heb]; rfl⟩
    gi_wp2
    refine last_in_round (fun W' : World => W'.cell? ⟨w.heap.size, 0, none⟩ = some sv ∧ W'.cell? ⟨eb, 0, none⟩ = some (.slice ak k.length ck) ∧ W'.cell? ⟨eb, 1, none⟩ = some (.slice av v.length cv)) 5 (by kernel_rfl) (by kernel_rfl) (by rintro ⟨_, _, h⟩; exact h) ?_
    refine wpAnyE_take (i := 0) (v := ?_) rfl (by kernel_rfl) (by kernel_rfl) (by kernel_rfl) (by kernel_rfl) (by kernel_rfl) (fun _ _ _ h => h) (Or.inl ⟨by rfl, ?_⟩) (by assumption) ?_; rotate_left; (focus (intro w hSw; (try dsimp only at hSw); (try obtain ⟨hSw1, hSw2, hSw3⟩ := hSw); go_simp <;> with_reducible rfl)); (try simp only [Act.put, List.getElem_toArray, List.getElem_cons_zero, List.getElem_cons_succ, List.setIfInBounds_toArray, List.set_cons_zero, List.set_cons_succ])
    refine wpAnyE_take (i := 1) (v := ?_) rfl (by kernel_rfl) (by kernel_rfl) (by kernel_rfl) (by kernel_rfl) (by kernel_rfl) (fun _ _ _ h => h) (Or.inl ⟨by rfl, ?_⟩) (by assumption) ?_; rotate_left; (focus (intro w hSw; (try dsimp only at hSw); (try obtain ⟨hSw1, hSw2, hSw3⟩ := hSw); go_simp <;> with_reducible rfl)); (try simp only [Act.put, List.getElem_toArray, List.getElem_cons_zero, List.getElem_cons_succ, List.setIfInBounds_toArray, List.set_cons_zero, List.set_cons_succ])
    have HC := entry_any _ _ k v W.drew (hsk.new (below_drewN _ _ 1)) (hsv.new (below_drewN _ _ 1)) (by have := hsh.1; simp [EntV.ent] at this; omega) (by have := hsh.2; simp [EntV.ent] at this; omega)
    refine takeE_call (i := 2) #[.agg #[.slice ak k.length ck, .slice av v.length cv]] (fun u w' => ∃ kv' vv', u = .agg #[kv', vv'] ∧ Copy W.heap.size w' kv' k ∧ Copy W.heap.size w' vv' v ∧ (∀ g, kv'.ownBlock = some g → vv'.ownBlock ≠ some g) ∧ Below W.heap.size W w') (by kernel_rfl) rfl rfl rfl (by kernel_rfl) (enters_of Tryd.func70 (by kernel_rfl) rfl) (HC.mono fun e w' ⟨kv', vv', h1, h2, h3, h4, h5⟩ => ⟨_, h1, kv', vv', rfl, h2, h3, h4, (below_drewN _ _ 1).trans h5⟩) ?_
    rintro _ W1 ⟨kv', vv', rfl, hk1, hv1, hap1, hb1⟩
    obtain ⟨a3, c3, rfl⟩ := hk1.form
    obtain ⟨a4, c4, rfl⟩ := hv1.form
    have hS1 : (fun W' : World => W'.cell? ⟨w.heap.size, 0, none⟩ = some sv ∧ W'.cell? ⟨eb, 0, none⟩ = some (.slice ak k.length ck) ∧ W'.cell? ⟨eb, 1, none⟩ = some (.slice av v.length cv)) W1 := ⟨(hb1.cell (p := ⟨w.heap.size, 0, none⟩) (World.block_lt_of_cell? W _ hS0.1)).trans hS0.1, (hb1.cell (p := ⟨eb, 0, none⟩) hebz).trans hS0.2.1, (hb1.cell (p := ⟨eb, 1, none⟩) hebz).trans hS0.2.2⟩
    refine ⟨hS1, ?_⟩
    simp only [Act.put, List.getElem_toArray, List.getElem_cons_zero, List.getElem_cons_succ, List.setIfInBounds_toArray, List.set_cons_zero, List.set_cons_succ]
    obtain ⟨i0, hi, hz0, hz1, hz2⟩ := info_parts Tryd.infoEntryZ
    have hbA : Below W1.heap.size W1 (W1.alloc (.cells #[.slice a3 k.length c3, .slice a4 v.length c4] 26)) := (Below.refl _ _).alloc (Nat.le_refl _) _
    have hnA := World.alloc_heap_new W1 (.cells #[.slice a3 k.length c3, .slice a4 v.length c4] 26)
    have hz1' := hb1.size
    have hS2 : (fun W' : World => W'.cell? ⟨w.heap.size, 0, none⟩ = some sv ∧ W'.cell? ⟨eb, 0, none⟩ = some (.slice ak k.length ck) ∧ W'.cell? ⟨eb, 1, none⟩ = some (.slice av v.length cv)) (W1.alloc (.cells #[.slice a3 k.length c3, .slice a4 v.length c4] 26)) := ⟨(hbA.cell (p := ⟨w.heap.size, 0, none⟩) (World.block_lt_of_cell? W1 _ hS1.1)).trans hS1.1, (hbA.cell (p := ⟨eb, 0, none⟩) (World.block_lt_of_cell? W1 _ hS1.2.1)).trans hS1.2.1, (hbA.cell (p := ⟨eb, 1, none⟩) (World.block_lt_of_cell? W1 _ hS1.2.2)).trans hS1.2.2⟩
    refine takeE_slice (i := 3) #[.slice a3 k.length c3, .slice a4 v.length c4] i0 _ (by kernel_rfl) rfl rfl rfl (by kernel_rfl) Tryd.underlying51 hi hz0 (by rw [hz1]; rfl) (by simp) (by simp) hS2 ?_
    simp only [Act.put, List.getElem_toArray, List.getElem_cons_zero, List.getElem_cons_succ, List.setIfInBounds_toArray, List.set_cons_zero, List.set_cons_succ]
    have hb2 : Below W.heap.size W (W1.alloc (.cells #[.slice a3 k.length c3, .slice a4 v.length c4] 26)) := hb1.trans (hbA.mono hb1.size)
    generalize W1.alloc (.cells #[.slice a3 k.length c3, .slice a4 v.length c4] 26) = W2 at *
    have hown2 := (Spares.of_new (S := fun _ => False) hb2).row HI.out.rowd.row (fun _ _ => id)
    have hcnt : xs.length + 1 < 1000000001 := by
      have q1 := congrArg List.length hI.same
      have q2 := congrArg List.length (itemsO_ents o)
      simp at q1 q2
      omega
    have hb2z := hb2.size
    refine takeE_append (i := 4) (s := .tmp 8) (x := .tmp 11) (t := 51) (by kernel_rfl) rfl rfl rfl (w.heap.size + 2) 26 i0 _ 2 48 Tryd.underlying51 hi hz0 hz1 hz2 rfl (by decide) sv xs.length (xs.flatMap EntV.two) (by kernel_rfl) hown2 ⟨W1.heap.size, 0, none⟩ 1 1 [.slice a3 k.length c3, .slice a4 v.length c4] (by kernel_rfl) rfl (by have := World.news_of_block hnA; simpa using this) (by intro u hu; simp at hu; rcases hu with rfl | rfl <;> rfl) (by decide) (by unfold maxLen; omega) (by omega) (by omega) ?_
    intro g cap W3 hown3 hgrow hat hglt
    have hlow : ∀ i, sv.ownBlock = some i → w.heap.size + 2 ≤ i ∧ i < W.heap.size := fun i hi => HI.out.rowd.row.lt i hi
    have hz2' := hbA.size
    have hS3 : (fun W' : World => W'.cell? ⟨w.heap.size, 0, none⟩ = some sv ∧ W'.cell? ⟨eb, 0, none⟩ = some (.slice ak k.length ck) ∧ W'.cell? ⟨eb, 1, none⟩ = some (.slice av v.length cv)) W3 := ⟨(hgrow.cell_far ⟨w.heap.size, 0, none⟩ (World.block_lt_of_cell? W2 _ hS2.1) (fun e => by have h1 : w.heap.size + 2 ≤ w.heap.size := (hlow _ e.symm).1; omega)).trans hS2.1,
      (hgrow.cell_far ⟨eb, 0, none⟩ (World.block_lt_of_cell? W2 _ hS2.2.1) (fun e => HNE.out e.symm)).trans hS2.2.1, (hgrow.cell_far ⟨eb, 1, none⟩ (World.block_lt_of_cell? W2 _ hS2.2.2) (fun e => HNE.out e.symm)).trans hS2.2.2⟩
    have hfr : W3.frozen? ⟨w.heap.size, 0, none⟩ = false := by
      rw [hgrow.frozen_far ⟨w.heap.size, 0, none⟩ (World.block_lt_of_cell? W2 _ hS2.1) (fun e => by have h1 : w.heap.size + 2 ≤ w.heap.size := (hlow _ e.symm).1; omega)]
      have hgot2 := (hb2.block w.heap.size (by omega)).trans HI.out.box
      simp [World.frozen?, hgot2]
    have HF := hid (fun B => all_step (B := B) HI.out ⟨_, hy0⟩ hb1 hk1 hv1 hap1 hbA hgrow hown3 hat)
    refine ⟨hS3, ?_⟩
    simp only [Act.put, List.getElem_toArray, List.getElem_cons_zero, List.getElem_cons_succ, List.setIfInBounds_toArray, List.set_cons_zero, List.set_cons_succ]
    clear hown3 hgrow hat hlow hown2 hnA hS2 hS1 hb2 hb1 hbA HC
    refine takeE_store (i := 5) (pi := ⟨w.heap.size, 0, none⟩) (v := .slice (some ⟨g, 0, none⟩) (xs.length + 1) cap) Tryd.infoEntries (by kernel_rfl) rfl rfl rfl rfl (by kernel_rfl) (by kernel_rfl) rfl rfl hS3.1 hfr (.inr rfl) ?_
    refine wpAnyE_done (by kernel_rfl) ?_ _
    gi_wp2
    exact ⟨(HF.out _).1, (HF.out 0).2.1, (HF.out 0).2.2⟩
end Go.Proofs.YtmafaioohiaenaaDoor

/- Slices of entries that are read; contracts of bytes.Compare and sort.Search. -/

namespace Go.Proofs.YtmafaioohiaenaaDoor
open Go.RowKit Go.Shelf
set_option linter.unusedVariables false
set_option linter.unusedSimpArgs false
set_option maxRecDepth 20000

/-- v IS A SLICE OF THE ENTRIES xs, below block B. -/
def Ents (B : Nat) (w : World) (v : Value) (xs : List EntV) : Prop :=
  ∃ a c, v = .slice a xs.length c ∧ xs.length ≤ c ∧ c ≤ maxLen ∧ (xs ≠ [] → ∃ b off, a = some ⟨b, off, none⟩ ∧ b < B ∧ ∀ j x, xs[j]? = some x →
    w.cell? ⟨b, off + j * 2, none⟩ = some x.kv ∧ w.cell? ⟨b, off + j * 2 + 1, none⟩ = some x.vv ∧ Shows B w x.kv x.k ∧ Shows B w x.vv x.v)

theorem Ents.below {B : Nat} {w w' : World} {v : Value} {xs : List EntV} (h : Ents B w v xs) (hb : Below B w w') : Ents B w' v xs := by
  obtain ⟨a, c, hv, h1, h2, h3⟩ := h
  refine ⟨a, c, hv, h1, h2, fun hne => ?_⟩
  obtain ⟨b, off, ha, hlt, hc⟩ := h3 hne
  refine ⟨b, off, ha, hlt, fun j x hx => ?_⟩
  obtain ⟨c0, c1, s1, s2⟩ := hc j x hx
  exact ⟨by rw [hb.cell (p := ⟨b, off + j * 2, none⟩) hlt]; exact c0, by rw [hb.cell (p := ⟨b, off + j * 2 + 1, none⟩) hlt]; exact c1, s1.below hb, s2.below hb⟩

theorem Ents.mono {B B' : Nat} {w : World} {v : Value} {xs : List EntV} (h : Ents B w v xs) (hB : B ≤ B') : Ents B' w v xs := by
  obtain ⟨a, c, hv, h1, h2, h3⟩ := h
  refine ⟨a, c, hv, h1, h2, fun hne => ?_⟩
  obtain ⟨b, off, ha, hlt, hc⟩ := h3 hne
  exact ⟨b, off, ha, by omega, fun j x hx => ⟨(hc j x hx).1, (hc j x hx).2.1, (hc j x hx).2.2.1.mono hB, (hc j x hx).2.2.2.mono hB⟩⟩

theorem Ents.new {w w' : World} {v : Value} {xs : List EntV} (h : Ents w.heap.size w v xs) (hb : Below w.heap.size w w') : Ents w'.heap.size w' v xs := (h.below hb).mono hb.size

theorem Ents.len {B : Nat} {w : World} {v : Value} {xs : List EntV} (h : Ents B w v xs) : xs.length ≤ maxLen := by
  obtain ⟨a, c, hv, h1, h2, h3⟩ := h
  omega

/-- One entry. -/
theorem Ents.at {B : Nat} {w : World} {a : Option Addr} {l c : Nat} {xs : List EntV} (h : Ents B w (.slice a l c) xs) (k : Nat) (hk : k < xs.length) :
    ∃ b off ka kc va vc kb vb, a = some ⟨b, off, none⟩ ∧ b < B ∧ xs[k]? = some ⟨.slice ka kb.length kc, .slice va vb.length vc, kb, vb⟩ ∧
    w.cell? ⟨b, off + k * 2, none⟩ = some (.slice ka kb.length kc) ∧ w.cell? ⟨b, off + k * 2 + 1, none⟩ = some (.slice va vb.length vc) ∧
    Shows B w (.slice ka kb.length kc) kb ∧ Shows B w (.slice va vb.length vc) vb := by
  obtain ⟨a', c', hv, h1, h2, h3⟩ := h
  simp only [Value.slice.injEq] at hv
  obtain ⟨rfl, rfl, rfl⟩ := hv
  obtain ⟨b, off, rfl, hlt, hc⟩ := h3 (by intro e; rw [e] at hk; simp at hk)
  obtain ⟨⟨kv, vv, k', v'⟩, hx⟩ : ∃ x, xs[k]? = some x := ⟨_, List.getElem?_eq_getElem hk⟩
  obtain ⟨c0, c1, s1, s2⟩ := hc k _ hx
  simp only at c0 c1 s1 s2
  obtain ⟨ka, kc, ek, _⟩ := id s1
  obtain ⟨va, vc, ev, _⟩ := id s2
  subst ek ev
  exact ⟨b, off, ka, kc, va, vc, k', v', rfl, hlt, hx, c0, c1, s1, s2⟩

/-- The first m entries. -/
theorem Ents.take {B : Nat} {w : World} {b off l c : Nat} {xs : List EntV} (h : Ents B w (.slice (some ⟨b, off, none⟩) l c) xs) (m : Nat) (hm : m ≤ xs.length) :
    Ents B w (.slice (some ⟨b, off, none⟩) m c) (xs.take m) := by
  obtain ⟨a', c', hv, h1, h2, h3⟩ := h
  simp only [Value.slice.injEq] at hv
  obtain ⟨rfl, rfl, rfl⟩ := hv
  have hl : (xs.take m).length = m := by simp; omega
  refine ⟨_, c, by rw [hl], by rw [hl]; omega, h2, fun hne => ?_⟩
  obtain ⟨b', off', ha, hlt, hc⟩ := h3 (by intro e; rw [e] at hne; simp at hne)
  refine ⟨b', off', ha, hlt, fun j x hx => hc j x ?_⟩
  rw [List.getElem?_take] at hx
  split at hx
  · exact hx
  · cases hx

/-- Those from m on. -/
theorem Ents.drop {B : Nat} {w : World} {b off l c : Nat} {xs : List EntV} (h : Ents B w (.slice (some ⟨b, off, none⟩) l c) xs) (m : Nat) (hm : m < xs.length) :
    Ents B w (.slice (some ⟨b, off + m * 2, none⟩) (xs.length - m) (c - m)) (xs.drop m) := by
  obtain ⟨a', c', hv, h1, h2, h3⟩ := h
  simp only [Value.slice.injEq] at hv
  obtain ⟨rfl, rfl, rfl⟩ := hv
  have hl : (xs.drop m).length = xs.length - m := by simp
  refine ⟨_, c - m, by rw [hl], by rw [hl]; omega, by omega, fun hne => ?_⟩
  obtain ⟨b', off', ha, hlt, hc⟩ := h3 (by intro e; rw [e] at hm; simp at hm)
  simp only [Option.some.injEq, Addr.mk.injEq] at ha
  obtain ⟨rfl, rfl, _⟩ := ha
  refine ⟨b, off + m * 2, rfl, hlt, fun j x hx => ?_⟩
  rw [List.getElem?_drop] at hx
  have := hc (m + j) x hx
  rw [show off + (m + j) * 2 = off + m * 2 + j * 2 by omega] at this
  exact this

theorem flat_two : ∀ (xs : List EntV) (j : Nat) (x : EntV), xs[j]? = some x → (xs.flatMap EntV.two)[j * 2]? = some x.kv ∧ (xs.flatMap EntV.two)[j * 2 + 1]? = some x.vv
  | [], j, x, h => by simp at h
  | y :: xs, 0, x, h => by simp at h; subst h; simp [EntV.two]
  | y :: xs, j + 1, x, h => by
    have := flat_two xs j x (by simpa using h)
    rw [show (j + 1) * 2 = j * 2 + 2 by omega]
    simpa [EntV.two] using this

theorem Rowed.ents {B : Nat} {W : World} {sv : Value} {xs : List EntV} (h : Rowed B W sv xs) : Ents W.heap.size W sv xs := by
  rcases h.row.2 with ⟨rfl, h0⟩ | ⟨g, cap, cur, rfl, hB, hg, hr⟩
  · have : xs = [] := List.eq_nil_of_length_eq_zero h0
    subst this
    exact ⟨none, 0, rfl, Nat.le_refl _, by unfold maxLen; omega, fun h => absurd rfl h⟩
  · obtain ⟨h1, h2, h3, h4⟩ := hr
    refine ⟨_, cap, rfl, h1, h2, fun hne => ⟨g, 0, rfl, (Array.getElem?_eq_some_iff.1 hg).1, fun j x hx => ?_⟩⟩
    have hj : j < xs.length := (List.getElem?_eq_some_iff.1 hx).1
    obtain ⟨f0, f1⟩ := flat_two xs j x hx
    rw [← h4, List.getElem?_take, if_pos (by omega), Array.getElem?_toList] at f0 f1
    have hm : x ∈ xs := List.mem_of_getElem? hx
    refine ⟨?_, ?_, (h.cps x hm).1.says, (h.cps x hm).2.says⟩
    · rw [cell_of_row _ _ _ _ _ _ hg, Nat.zero_add]; exact f0
    · rw [cell_of_row _ _ _ _ _ _ hg, Nat.zero_add]; exact f1

theorem run_load8 {P : Program} (w : World) : ∀ (l : List UInt8) (a : Addr) (acc : ByteArray), (∀ j x, l[j]? = some x → w.cell? (a.add j) = some (.int .u8 x.toNat)) →
    (Extern.Bytes.loadBytes a l.length acc).run P w = .ok ⟨acc.data ++ l.toArray⟩ w
  | [], a, acc, _ => by simp [Extern.Bytes.loadBytes]
  | x :: l, a, acc, h => by
    have h0 : w.cell? a = some (.int .u8 x.toNat) := by
      have := h 0 x rfl
      simpa [Addr.add] using this
    have ih := run_load8 (P := P) w l (a.add 1) (acc.push x) (fun j y hy => by
      have := h (j + 1) y (by simpa using hy)
      have e : (a.add 1).add j = a.add (j + 1) := by
        unfold Addr.add
        by_cases hj : j = 0
        · subst hj; simp
        · simp [hj]; omega
      rw [e]; exact this)
    have hx : ((x.toNat : Int).toNat).toUInt8 = x := by simp
    simp only [List.length_cons, Extern.Bytes.loadBytes, Sem.run_bind, run_load, h0, Result.andThen, Extern.Bytes.asByte, Sem.run_pure, hx]
    rw [ih]
    congr 1
    apply ByteArray.ext
    simp [ByteArray.push]

theorem run_bytes_shows {P : Program} {B : Nat} {w : World} {v : Value} {bs : List UInt8} (h : Shows B w v bs) : (Extern.Bytes.bytesOf v).run P w = .ok ⟨bs.toArray⟩ w := by
  obtain ⟨a, c, rfl, h1, h2, hn, h3⟩ := h
  cases a with
  | none =>
    have hb : bs = [] := List.eq_nil_of_length_eq_zero (by have := hn rfl; omega)
    subst hb
    rfl
  | some ad =>
    have := run_load8 (P := P) w bs ad .empty (fun j x hj => by
      have := (by8_cells (B := B) (w := w) (ad := ad) (l := bs.length) (c := c) (bs := bs) ⟨some ad, c, rfl, h1, h2, hn, h3⟩).2 j (by8 x) (by rw [List.getElem?_map, hj]; rfl)
      exact this)
    simp only [Extern.Bytes.bytesOf]
    rw [this]
    simp [ByteArray.empty, ByteArray.emptyWithCapacity]
    rfl

theorem cmp_less : ∀ a b : List UInt8, decide (0 ≤ Lib.compareBytes a b) = !Op.bytesLess a b
  | [], [] => rfl
  | [], _ :: _ => rfl
  | _ :: _, [] => rfl
  | x :: a, y :: b => by
    have ih := cmp_less a b
    simp only [Lib.compareBytes, Op.bytesLess]
    by_cases h1 : x < y
    · simp [h1]
    · by_cases h2 : y < x
      · have : (x == y) = false := by
          rw [beq_eq_false_iff_ne]; intro e; subst e; exact absurd h2 (UInt8.lt_irrefl _)
        simp [h1, h2, this]
      · have : x = y := UInt8.le_antisymm (UInt8.not_lt.1 h2) (UInt8.not_lt.1 h1)
        subst this
        simp [UInt8.lt_irrefl, ih]

theorem cmp_range : ∀ a b : List UInt8, -1 ≤ Lib.compareBytes a b ∧ Lib.compareBytes a b ≤ 1
  | [], [] => by simp [Lib.compareBytes]
  | [], _ :: _ => by simp [Lib.compareBytes]
  | _ :: _, [] => by simp [Lib.compareBytes]
  | x :: a, y :: b => by
    have ih := cmp_range a b
    simp only [Lib.compareBytes]
    repeat' split
    all_goals omega

end Go.Proofs.YtmafaioohiaenaaDoor

/- Contract of the document's own Same, where the entries are the same. -/

namespace Go.Proofs.YtmafaioohiaenaaDoor
open Go.RowKit Go.Shelf
set_option linter.unusedVariables false
set_option linter.unusedSimpArgs false
set_option maxRecDepth 20000

theorem str4 {B : Nat} {w : World} {v : Value} {bs : List UInt8} (h : Shows B w v bs) : (convert 24 9 v).run Tryd.prog w = .ok (.string (str8 bs)) w :=
  run_string_shows (P := Tryd.prog) 24 5 9 Tryd.underlying24 Tryd.underlying5 Tryd.underlying9 h

theorem same_any (B C : Nat) (v u : Value) (xs ys : List EntV) (w : World) (hE : Ents B w v xs) (hF : Ents C w u ys) (hxy : xs.map EntV.ent = ys.map EntV.ent) :
    Calls Tryd.prog 52 #[v, u] w fun e w' => e = .returned (.bool true) ∧ ∃ q, w' = w.drewN q := by
  obtain ⟨a, c, rfl, hc1, hc2, _⟩ := id hE
  obtain ⟨a', c', rfl, hd1, hd2, _⟩ := id hF
  unfold maxLen at hc2 hd2
  have hlen : ys.length = xs.length := by have := congrArg List.length hxy; simp at this; omega
  have HE := hid hE
  have HF := hid hF
  have HXY := hid hxy
  rw [hlen] at HF ⊢
  have HL := hid hlen
  clear hE hF hxy hlen hd1
  go_enter Tryd.func52, Tryd.ntmps52
  go_wp2_with fail
  go_loopw [5] (fun i wr => ∃ k : Nat, k ≤ xs.length ∧ i = .int .i64 k ∧ Hid (∃ q, wr = w.drewN q)) (fun i _ => xs.length - (intOf i).toNat)
  case atStart => exact ⟨0, Nat.zero_le _, rfl, hid ⟨0, rfl⟩⟩
  case round =>
    obtain ⟨k, hk, rfl, HD⟩ := hrel
    have HBB : Hid (∀ n, Below n w wr) := hid (fun n => by obtain ⟨q, hq⟩ := HD.out; rw [hq]; exact below_drewN _ _ q)
    have HD2 : Hid (∀ m, ∃ q, wr.drewN m = w.drewN q) := hid (fun m => by obtain ⟨q, hq⟩ := HD.out; exact ⟨q + m, by rw [hq, World.drewN_drewN]⟩)
    by_cases hlt : k < xs.length
    · obtain ⟨b, off, ka, kc, va, vc, kb, vb, rfl, hb, hx, c0, c1, s1, s2⟩ := (HE.out.below (HBB.out _)).at k hlt
      obtain ⟨b', off', la, lc, ua, uc, lb, ub, rfl, hb', hy, d0, d1, t1, t2⟩ := (HF.out.below (HBB.out _)).at k (by rw [HL.out]; exact hlt)
      have e1 : (lb, ub) = (kb, vb) := by
        have h1 := congrArg (fun l => l[k]?) HXY.out
        simp only [List.getElem?_map, hx, hy, Option.map_some, EntV.ent, Option.some.injEq] at h1
        exact h1.symm
      simp only [Prod.mk.injEq] at e1
      obtain ⟨rfl, rfl⟩ := e1
      have e1 := fun nq => str4 (s1.below (below_drewN _ wr nq))
      have e2 := fun nq => str4 (s2.below (below_drewN _ wr nq))
      have e3 := fun nq => str4 (t1.below (below_drewN _ wr nq))
      have e4 := fun nq => str4 (t2.below (below_drewN _ wr nq))
      have hki : (k : Int) < (xs.length : Int) := by omega
      have hk0 : (0 : Int) ≤ (k : Int) := by omega
      have HKX := hid hlt
      clear s1 s2 t1 t2 hx hy
      go_wp2_with fail
      go_quiet (fail)
      go_wp2_with fail
      go_roundw
      case rel => exact ⟨k + 1, HKX.out, by go_num, hid (HD2.out _)⟩
      case measure => have := HKX.out; simp [intOf]; omega
    · have hki : (xs.length : Int) ≤ (k : Int) := by omega
      go_wp2
      go_ret
      exact ⟨rfl, HD.out⟩
end Go.Proofs.YtmafaioohiaenaaDoor
