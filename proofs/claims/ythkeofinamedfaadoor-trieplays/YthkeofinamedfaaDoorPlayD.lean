/- A tree and the document's own, side by side: what an act on both keeps. -/
import Derived.Test.YthkeofinamedfaaDoorPlayB
import Derived.Test.YthkeofinamedfaaDoorPlayC
import Derived.Test.YthkeofinamedfaaDoorPutG
import Derived.Test.YthkeofinamedfaaDoorCodec
import Derived.Test.YthkeofinamedfaaDoorMadeF
namespace Go.Proofs.YthkeofinamedfaaDoor
open Go.RowKit Go.Shelf
set_option linter.unusedVariables false
set_option linter.unusedSimpArgs false
set_option maxRecDepth 20000

/-- THE TWO TREES, in blocks of A, none of which is both's. -/
def Pair (A : Nat → Prop) (W : World) (tb xb : Nat) (T : Option Tri) (xs : List EntV) : Prop :=
  ∃ St Sx, TS St W tb T ∧ XS Sx W xb xs ∧ (∀ i, St i → A i ∧ ¬ Sx i) ∧ ∀ i, Sx i → A i

section
variable {A : Nat → Prop} {W W' : World} {tb xb : Nat} {T : Option Tri} {xs : List EntV}

theorem Pair.keep {R : Nat → Prop} (h : Pair A W tb xb T xs) (hk : Spares R W W') (hd : ∀ i, A i → ¬ R i) : Pair A W' tb xb T xs := by
  obtain ⟨St, Sx, h1, h2, h3, h4⟩ := h
  exact ⟨St, Sx, h1.keep hk (fun i hi => hd i (h3 i hi).1), h2.keep hk (fun i hi => hd i (h4 i hi)), h3, h4⟩

theorem Pair.new (h : Pair A W tb xb T xs) (hb : Below W.heap.size W W') : Pair A W' tb xb T xs := h.keep (R := fun _ => False) (Spares.of_new hb) (fun _ _ => id)

theorem Pair.mono {A' : Nat → Prop} (h : Pair A W tb xb T xs) (hA : ∀ i, A i → A' i) : Pair A' W tb xb T xs := by
  obtain ⟨St, Sx, h1, h2, h3, h4⟩ := h
  exact ⟨St, Sx, h1, h2, fun i hi => ⟨hA i (h3 i hi).1, (h3 i hi).2⟩, fun i hi => hA i (h4 i hi)⟩

theorem Pair.lt (h : Pair A W tb xb T xs) : Pair (fun i => A i ∧ i < W.heap.size) W tb xb T xs := by
  obtain ⟨St, Sx, h1, h2, h3, h4⟩ := h
  exact ⟨St, Sx, h1, h2, fun i hi => ⟨⟨(h3 i hi).1, h1.lt i hi⟩, (h3 i hi).2⟩, fun i hi => ⟨h4 i hi, h2.lt i hi⟩⟩

theorem Pair.tree (h : Pair A W tb xb T xs) : TreeB 0 W tb T := by
  obtain ⟨St, Sx, h1, h2, h3, h4⟩ := h
  exact h1.B

theorem Pair.wf (h : Pair A W tb xb T xs) : Tri.WFO T := h.tree.wf

theorem pair_put (kv vv : Value) (key val : List UInt8) (h : Pair A W tb xb T xs) (hA : ∀ i, W.heap.size ≤ i → A i) (hk : Says W kv key) (hv : Says W vv val) (hs : Tri.short (key, val)) (hfew : (Tri.entsO T).length < 1000000) :
    Calls Tryd.prog 23 #[.pointer (some ⟨tb, 0, none⟩), kv, vv] W fun e W' => e = .returned (.int .i64 0) ∧ Pair A W' tb xb (some (Tri.put T (key, val))) xs ∧ Spares A W W' := by
  obtain ⟨St, Sx, h1, h2, h3, h4⟩ := h
  refine (put_S St tb T kv vv key val W h1 hk hv hs (by omega)).mono ?_
  rintro e W' ⟨rfl, q1, q2⟩
  refine ⟨rfl, ⟨ext St W W', Sx, q1, h2.keep q2 (fun i hi hs => (h3 i hs).2 hi), ?_, h4⟩, q2.mono (fun i hi => (h3 i hi).1)⟩
  rintro i (hi | hi)
  · exact h3 i hi
  · exact ⟨hA i hi.1, fun hx => by have := h2.lt i hx; omega⟩

theorem pair_xput (kv vv : Value) (key val : List UInt8) (h : Pair A W tb xb T xs) (hA : ∀ i, W.heap.size ≤ i → A i) (hk : Says W kv key) (hv : Says W vv val) (hs : Tri.short (key, val)) (hfew : xs.length < 1000000) :
    Calls Tryd.prog 30 #[.pointer (some ⟨xb, 0, none⟩), kv, vv] W fun e W' => e = .returned (.int .i64 0) ∧ ∃ ys, Pair A W' tb xb T ys ∧ ys.map EntV.ent = putL (xs.map EntV.ent) (key, val) ∧ Spares A W W' := by
  obtain ⟨St, Sx, h1, h2, h3, h4⟩ := h
  have hxb := h2.own
  refine (xput_any Sx xb xs kv vv key val W h2 hk hv hs hfew).mono ?_
  rintro e W' ⟨rfl, ys, q1, q2, q3⟩
  refine ⟨rfl, ys, ⟨St, ext Sx W W', h1.keep q3 (fun i hi e => (h3 i hi).2 (e ▸ hxb)), q1, fun i hi => ⟨(h3 i hi).1, ?_⟩, ?_⟩, q2, q3.mono (fun i hi => hi ▸ h4 xb hxb)⟩
  · rintro (hx | hx)
    · exact (h3 i hi).2 hx
    · have := h1.lt i hi; omega
  · rintro i (hi | hi)
    · exact h4 i hi
    · exact hA i hi.1

theorem pair_delete (kv : Value) (key : List UInt8) (h : Pair A W tb xb T xs) (hk : Says W kv key) (hfew : (Tri.entsO T).length < 1000000) :
    Calls Tryd.prog 25 #[.pointer (some ⟨tb, 0, none⟩), kv] W fun e W' => e = .returned (.bool (look T key).isSome) ∧ Pair A W' tb xb (dropT T key) xs ∧ Spares A W W' := by
  obtain ⟨St, Sx, h1, h2, h3, h4⟩ := h
  refine (delete_S St tb T kv key W h1 hk (by omega)).mono ?_
  rintro e W' ⟨rfl, q1, q2⟩
  exact ⟨rfl, ⟨St, Sx, q1, h2.keep q2 (fun i hi hs => (h3 i hs).2 hi), h3, h4⟩, q2.mono (fun i hi => (h3 i hi).1)⟩

theorem pair_xdelete {T' : Option Tri} (kv : Value) (key : List UInt8) (h : Pair A W tb xb T' xs) (hA : ∀ i, W.heap.size ≤ i → A i) (hT : Tri.WFO T) (hx' : xs.map EntV.ent = Tri.entsO T) (hk : Says W kv key) (hfew : xs.length < 1000000) :
    Calls Tryd.prog 31 #[.pointer (some ⟨xb, 0, none⟩), kv] W fun e W' => e = .returned (.bool (look T key).isSome) ∧ ∃ ys, Pair A W' tb xb T' ys ∧ ys.map EntV.ent = Tri.entsO (dropT T key) ∧ Spares A W W' := by
  obtain ⟨St, Sx, h1, h2, h3, h4⟩ := h
  have hxb := h2.own
  refine (xdelete_any Sx xb xs T kv key W h2 hT hx' hk hfew).mono ?_
  rintro e W' ⟨rfl, ys, q1, q2, q3⟩
  refine ⟨rfl, ys, ⟨St, ext Sx W W', h1.keep q3 (fun i hi e => (h3 i hi).2 (e ▸ hxb)), q1, fun i hi => ⟨(h3 i hi).1, ?_⟩, ?_⟩, q2, q3.mono (fun i hi => hi ▸ h4 xb hxb)⟩
  · rintro (hx | hx)
    · exact (h3 i hi).2 hx
    · have := h1.lt i hi; omega
  · rintro i (hi | hi)
    · exact h4 i hi
    · exact hA i hi.1
end

theorem Lends.spares4 {S : Nat → Prop} {B : Nat} {w w' : World} {v : Value} {bs : List UInt8} (h : Lends B w v bs) (hk : Spares S w w') (hS : ∀ g, v.ownBlock = some g → ¬ S g) : Lends B w' v bs := by
  obtain ⟨g, rfl, ho⟩ := h
  exact ⟨g, rfl, hk.row ho fun k hk => hS k hk⟩

theorem Lends.ltR4 {B : Nat} {w : World} {v : Value} {bs : List UInt8} (h : Lends B w v bs) : ∀ k, v.ownBlock = some k → B ≤ k ∧ k < w.heap.size := by
  obtain ⟨g, rfl, ho⟩ := h
  intro k hk
  exact ho.lt k hk

theorem Lends.full4 {B : Nat} {w : World} {v : Value} {bs : List UInt8} (h : Lends B w v bs) : ∃ ys, Full B w v ys := by
  obtain ⟨g, rfl, ho⟩ := h
  exact ⟨_, .inr ⟨g, _, _, rfl, ho⟩⟩

/-- Where the trees may lie: not between N and M. -/
def area (B N M : Nat) (i : Nat) : Prop := B ≤ i ∧ (i < N ∨ M ≤ i)

/-- IN AN ACT: the trees, the act's own block, what was lent, what was given. -/
structure In (B N M : Nat) (w : World) (tb xb : Nat) (d : Int) (ka va k' v' : Value) (kb vb : List UInt8) (T : Option Tri) (xs : List EntV) (W : World) : Prop where
  pair : Pair (area B N M) W tb xb T xs
  box : W.heap[N]? = some (.cells #[.int .i64 d, ka, va] 30 (0, 0))
  k : Lends (N + 1) W k' kb
  v : Lends (N + 1) W v' vb
  kM : ∀ g, k'.ownBlock = some g → g < M
  vM : ∀ g, v'.ownBlock = some g → g < M
  ne : ∀ g, k'.ownBlock = some g → v'.ownBlock ≠ some g
  ka : Shows B W ka kb
  va : Shows B W va vb
  kl : kb.length ≤ 4096
  vl : vb.length ≤ 16384
  below : Below B w W
  BN : B ≤ N
  NM : N + 1 ≤ M
  MW : M ≤ W.heap.size
  tbl : Tables W
  tB : 2 + 1 ≤ B

section
variable {B N M : Nat} {w : World} {tb xb : Nat} {d : Int} {ka va k' v' : Value} {kb vb : List UInt8} {T T' : Option Tri} {xs ys : List EntV} {W W' : World}

theorem In.on (h : In B N M w tb xb d ka va k' v' kb vb T xs W) (hs : Spares (area B N M) W W') (hp : Pair (area B N M) W' tb xb T' ys) : In B N M w tb xb d ka va k' v' kb vb T' ys W' := by
  have hN := h.NM
  have hM := h.MW
  have hbn := h.BN
  have hb : Below B W W' := hs.below (fun i hi => hi.1) (by omega)
  have hk := fun g e => h.k.ltR4 g e
  have hv := fun g e => h.v.ltR4 g e
  refine ⟨hp, (hs.block N (by omega) (fun e => by have := e.2; omega)).trans h.box, h.k.spares4 hs (fun g hg e => ?_), h.v.spares4 hs (fun g hg e => ?_), h.kM, h.vM, h.ne, h.ka.below hb, h.va.below hb, h.kl, h.vl, h.below.trans hb, hbn, hN, Nat.le_trans hM hs.size, h.tbl.below hb h.tB, h.tB⟩
  · have h1 := (hk g hg).1; have h2 := h.kM g hg; have := e.2; omega
  · have h1 := (hv g hg).1; have h2 := h.vM g hg; have := e.2; omega

theorem In.new (h : In B N M w tb xb d ka va k' v' kb vb T xs W) (hb : Below W.heap.size W W') : In B N M w tb xb d ka va k' v' kb vb T xs W' := h.on (Spares.of_new hb) (h.pair.new hb)

theorem In.up (h : In B N M w tb xb d ka va k' v' kb vb T xs W) : ∀ i, W.heap.size ≤ i → area B N M i := fun i hi => ⟨by have := h.NM; have := h.MW; have := h.BN; omega, .inr (by have := h.MW; omega)⟩

theorem In.says (h : In B N M w tb xb d ka va k' v' kb vb T xs W) : Says W k' kb ∧ Says W v' vb ∧ Says W ka kb ∧ Says W va vb := by
  have h1 := h.kl
  have h2 := h.vl
  have h3 := h.NM
  have h4 := h.MW
  have h5 := h.BN
  exact ⟨h.k.shows (by unfold maxLen; omega), h.v.shows (by unfold maxLen; omega), h.ka.mono (by omega), h.va.mono (by omega)⟩
end
end Go.Proofs.YthkeofinamedfaaDoor
