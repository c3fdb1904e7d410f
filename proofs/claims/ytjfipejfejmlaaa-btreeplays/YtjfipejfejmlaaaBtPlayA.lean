/- A tree and the document's own, side by side: what an act on both keeps (stage 14). -/
import Derived.Test.YtjfipejfejmlaaaBtRow
import Derived.Test.YtjfipejfejmlaaaBtOwn
import Derived.Test.YtjfipejfejmlaaaBtDocD
import Derived.Test.YtjfipejfejmlaaaCodec
namespace Go.Proofs.Ytjfipejfejmlaaa
open Go.RowKit Go.Shelf
set_option linter.unusedVariables false
set_option linter.unusedSimpArgs false
set_option maxRecDepth 20000

/-- THE TWO TREES, in blocks of A, none of which is both's. -/
def PairB (BT : (Nat → Prop) → World → Nat → List (List Ent) → Nat → Prop) (A : Nat → Prop) (W : World) (tb xb : Nat) (L : List Ent) (xs : List EntV) : Prop :=
  ∃ St Sx : Nat → Prop, BL BT St W tb L ∧ XS Sx W xb xs ∧ (∀ i, St i → A i ∧ ¬ Sx i ∧ i < W.heap.size) ∧ ∀ i, Sx i → A i

section
variable {BT : (Nat → Prop) → World → Nat → List (List Ent) → Nat → Prop} (HA : Api BT) {A : Nat → Prop} {W W' : World} {tb xb : Nat} {L : List Ent} {xs : List EntV}
include HA

theorem PairB.keep {R : Nat → Prop} (h : PairB BT A W tb xb L xs) (hk : Spares R W W') (hd : ∀ i, A i → ¬ R i) : PairB BT A W' tb xb L xs := by
  obtain ⟨St, Sx, h1, h2, h3, h4⟩ := h
  exact ⟨St, Sx, HA.keepL h1 hk (fun i hi => hd i (h3 i hi).1), h2.keep hk (fun i hi => hd i (h4 i hi)), fun i hi => ⟨(h3 i hi).1, (h3 i hi).2.1, Nat.lt_of_lt_of_le (h3 i hi).2.2 hk.size⟩, h4⟩

theorem PairB.new (h : PairB BT A W tb xb L xs) (hb : Below W.heap.size W W') : PairB BT A W' tb xb L xs := h.keep HA (R := fun _ => False) (Spares.of_new hb) (fun _ _ => id)

omit HA in
theorem PairB.mono {A' : Nat → Prop} (h : PairB BT A W tb xb L xs) (hA : ∀ i, A i → A' i) : PairB BT A' W tb xb L xs := by
  obtain ⟨St, Sx, h1, h2, h3, h4⟩ := h
  exact ⟨St, Sx, h1, h2, fun i hi => ⟨hA i (h3 i hi).1, (h3 i hi).2⟩, fun i hi => hA i (h4 i hi)⟩

omit HA in
theorem PairB.lt (h : PairB BT A W tb xb L xs) : PairB BT (fun i => A i ∧ i < W.heap.size) W tb xb L xs := by
  obtain ⟨St, Sx, h1, h2, h3, h4⟩ := h
  exact ⟨St, Sx, h1, h2, fun i hi => ⟨⟨(h3 i hi).1, (h3 i hi).2.2⟩, (h3 i hi).2⟩, fun i hi => ⟨h4 i hi, h2.lt i hi⟩⟩

omit HA in
theorem PairB.tree (h : PairB BT A W tb xb L xs) : BL BT A W tb L := by
  obtain ⟨St, Sx, h1, h2, h3, h4⟩ := h
  exact h1.mono (fun i hi => (h3 i hi).1)

theorem pair_put (kv vv : Value) (key val : List UInt8) (h : PairB BT A W tb xb L xs) (hA : ∀ i, W.heap.size ≤ i → A i) (hk : Says W kv key) (hv : Says W vv val) (hs : Fine (key, val)) (hfew : L.length < 100000) :
    Calls Try.prog 11 #[.pointer (some ⟨tb, 0, none⟩), kv, vv] W fun e W' => e = .returned (.bool (hitK L key)) ∧ PairB BT A W' tb xb (putL L (key, val)) xs ∧ Spares A W W' := by
  obtain ⟨St, Sx, h1, h2, h3, h4⟩ := h
  refine (HA.putB kv vv key val (h1.mono (A' := fun i => St i ∨ W.heap.size ≤ i) (fun i hi => .inl hi)) (fun i hi => .inr hi) hk hv hs hfew).mono ?_
  rintro e W' ⟨rfl, q1, q2⟩
  have q3 : Spares A W W' := q2.mono (fun i hi => hi.elim (fun h => (h3 i h).1) (hA i))
  refine ⟨rfl, ⟨fun i => (St i ∨ W.heap.size ≤ i) ∧ i < W'.heap.size, Sx, HA.ltL q1, h2.keep q2 (fun i hi hs => ?_), ?_, h4⟩, q3⟩
  · rcases hs with hs | hs
    · exact (h3 i hs).2.1 hi
    · have := h2.lt i hi; omega
  · rintro i ⟨hi | hi, hl⟩
    · exact ⟨(h3 i hi).1, (h3 i hi).2.1, hl⟩
    · exact ⟨hA i hi, fun hx => by have := h2.lt i hx; omega, hl⟩

theorem pair_xput (kv vv : Value) (key val : List UInt8) (h : PairB BT A W tb xb L xs) (hA : ∀ i, W.heap.size ≤ i → A i) (hk : Says W kv key) (hv : Says W vv val) (hs : Fine (key, val)) (hfew : xs.length < 100000) :
    Calls Try.prog 32 #[.pointer (some ⟨xb, 0, none⟩), kv, vv] W fun e W' => e = .returned (.bool (hitK (xs.map EntV.ent) key)) ∧ ∃ ys, PairB BT A W' tb xb L ys ∧ ys.map EntV.ent = putL (xs.map EntV.ent) (key, val) ∧ Spares A W W' := by
  obtain ⟨St, Sx, h1, h2, h3, h4⟩ := h
  have hxb := h2.own
  refine (xput_any Sx xb xs kv vv key val W h2 hk hv hs.1 hs.2 (by omega)).mono ?_
  rintro e W' ⟨rfl, ys, q1, q2, q3⟩
  refine ⟨rfl, ys, ⟨St, ext Sx W W', HA.keepL h1 q3 (fun i hi e => (h3 i hi).2.1 (e ▸ hxb)), q1, fun i hi => ⟨(h3 i hi).1, ?_, Nat.lt_of_lt_of_le (h3 i hi).2.2 q3.size⟩, ?_⟩, q2, q3.mono (fun i hi => hi ▸ h4 xb hxb)⟩
  · rintro (hx | hx)
    · exact (h3 i hi).2.1 hx
    · have := (h3 i hi).2.2; omega
  · rintro i (hi | hi)
    · exact h4 i hi
    · exact hA i hi.1

theorem pair_delete (kv : Value) (key : List UInt8) (h : PairB BT A W tb xb L xs) (hA : ∀ i, W.heap.size ≤ i → A i) (hk : Says W kv key) (hfew : L.length < 100000) :
    Calls Try.prog 17 #[.pointer (some ⟨tb, 0, none⟩), kv] W fun e W' => e = .returned (.bool (hitK L key)) ∧ PairB BT A W' tb xb (delL L key) xs ∧ Spares A W W' := by
  obtain ⟨St, Sx, h1, h2, h3, h4⟩ := h
  refine (HA.deleteB kv key (h1.mono (A' := fun i => St i ∨ W.heap.size ≤ i) (fun i hi => .inl hi)) (fun i hi => .inr hi) hk hfew).mono ?_
  rintro e W' ⟨rfl, q1, q2⟩
  have q3 : Spares A W W' := q2.mono (fun i hi => hi.elim (fun h => (h3 i h).1) (hA i))
  refine ⟨rfl, ⟨fun i => (St i ∨ W.heap.size ≤ i) ∧ i < W'.heap.size, Sx, HA.ltL q1, h2.keep q2 (fun i hi hs => ?_), ?_, h4⟩, q3⟩
  · rcases hs with hs | hs
    · exact (h3 i hs).2.1 hi
    · have := h2.lt i hi; omega
  · rintro i ⟨hi | hi, hl⟩
    · exact ⟨(h3 i hi).1, (h3 i hi).2.1, hl⟩
    · exact ⟨hA i hi, fun hx => by have := h2.lt i hx; omega, hl⟩

theorem pair_xdelete (kv : Value) (key : List UInt8) (h : PairB BT A W tb xb L xs) (hA : ∀ i, W.heap.size ≤ i → A i) (hk : Says W kv key) (hfew : xs.length < 100000) :
    Calls Try.prog 33 #[.pointer (some ⟨xb, 0, none⟩), kv] W fun e W' => e = .returned (.bool (hitK (xs.map EntV.ent) key)) ∧ ∃ ys, PairB BT A W' tb xb L ys ∧ ys.map EntV.ent = delL (xs.map EntV.ent) key ∧ Spares A W W' := by
  obtain ⟨St, Sx, h1, h2, h3, h4⟩ := h
  have hxb := h2.own
  refine (xdelete_any Sx xb xs kv key W h2 hk (by omega)).mono ?_
  rintro e W' ⟨rfl, ys, q1, q2, q3⟩
  refine ⟨rfl, ys, ⟨St, ext Sx W W', HA.keepL h1 q3 (fun i hi e => (h3 i hi).2.1 (e ▸ hxb)), q1, fun i hi => ⟨(h3 i hi).1, ?_, Nat.lt_of_lt_of_le (h3 i hi).2.2 q3.size⟩, ?_⟩, q2, q3.mono (fun i hi => hi ▸ h4 xb hxb)⟩
  · rintro (hx | hx)
    · exact (h3 i hi).2.1 hx
    · have := (h3 i hi).2.2; omega
  · rintro i (hi | hi)
    · exact h4 i hi
    · exact hA i hi.1
end

theorem Lends.spares4 {S : Nat → Prop} {B : Nat} {w w' : World} {v : Value} {bs : List UInt8} (h : Lends B w v bs) (hk : Spares S w w') (hS : ∀ g, v.ownBlock = some g → ¬ S g) : Lends B w' v bs := by
  obtain ⟨g, rfl, ho⟩ := h
  exact ⟨g, rfl, hk.row ho fun k hk => hS k hk⟩

theorem Lends.ltR4 {B : Nat} {w : World} {v : Value} {bs : List UInt8} (h : Lends B w v bs) : ∀ k, v.ownBlock = some k → B ≤ k ∧ k < w.heap.size := by
  obtain ⟨g, rfl, ho⟩ := h
  intro k hk
  exact ho.lt k hk

theorem Lends.full4 {B : Nat} {w : World} {v : Value} {bs : List UInt8} (h : Lends B w v bs) : ∃ ys, Full B w v ys := by
  obtain ⟨g, rfl, ho⟩ := h
  exact ⟨_, .inr ⟨g, _, _, rfl, ho⟩⟩

theorem Lends.mono4 {B B' : Nat} {w : World} {v : Value} {bs : List UInt8} (h : Lends B w v bs) (hB : B' ≤ B) : Lends B' w v bs := by
  obtain ⟨g, rfl, ho⟩ := h
  exact ⟨g, rfl, owns_lower ho (fun g' hg => Nat.le_trans hB (ho.lt g' hg).1)⟩

/-- What an act holds: Do, K, V, S, and what the slices show. -/
structure ActIn where
  d : Int
  ka : Value
  va : Value
  fa : Value
  ta : Value
  en : Bool
  kb : List UInt8
  vb : List UInt8
  fb : List UInt8
  tb : List UInt8

/-- IN AN ACT: the trees, the act's own block, what was lent, what was given. -/
structure InB (BT : (Nat → Prop) → World → Nat → List (List Ent) → Nat → Prop) (B N M : Nat) (w : World) (tb xb : Nat) (a : ActIn) (k' v' : Value) (L : List Ent) (xs : List EntV) (W : World) : Prop where
  pair : PairB BT (area B N M) W tb xb L xs
  box : W.heap[N]? = some (.cells #[.int .i64 a.d, a.ka, a.va, a.fa, a.ta, .bool a.en] 34 (0, 0))
  k : Lends (N + 1) W k' a.kb
  v : Lends (N + 1) W v' a.vb
  kM : ∀ g, k'.ownBlock = some g → g < M
  vM : ∀ g, v'.ownBlock = some g → g < M
  ne : ∀ g, k'.ownBlock = some g → v'.ownBlock ≠ some g
  ka : Lent8 B W a.ka a.kb
  va : Lent8 B W a.va a.vb
  fa : Lent8 B W a.fa a.fb
  ta : Lent8 B W a.ta a.tb
  below : Below B w W
  BN : B ≤ N
  NM : N + 1 ≤ M
  MW : M ≤ W.heap.size

section
variable {BT : (Nat → Prop) → World → Nat → List (List Ent) → Nat → Prop} (HA : Api BT) {B N M : Nat} {w : World} {tb xb : Nat} {a : ActIn} {k' v' : Value} {L L' : List Ent} {xs ys : List EntV} {W W' : World}

theorem InB.on (h : InB BT B N M w tb xb a k' v' L xs W) (hs : Spares (area B N M) W W') (hp : PairB BT (area B N M) W' tb xb L' ys) : InB BT B N M w tb xb a k' v' L' ys W' := by
  have hN := h.NM
  have hM := h.MW
  have hbn := h.BN
  have hb : Below B W W' := hs.below (fun i hi => hi.1) (by omega)
  have hk := fun g e => h.k.ltR4 g e
  have hv := fun g e => h.v.ltR4 g e
  refine ⟨hp, (hs.block N (by omega) (fun e => by have := e.2; omega)).trans h.box, h.k.spares4 hs (fun g hg e => ?_), h.v.spares4 hs (fun g hg e => ?_), h.kM, h.vM, h.ne, h.ka.below hb, h.va.below hb, h.fa.below hb, h.ta.below hb, h.below.trans hb, hbn, hN, Nat.le_trans hM hs.size⟩
  · have h1 := (hk g hg).1; have h2 := h.kM g hg; have := e.2; omega
  · have h1 := (hv g hg).1; have h2 := h.vM g hg; have := e.2; omega

theorem InB.new (HA : Api BT) (h : InB BT B N M w tb xb a k' v' L xs W) (hb : Below W.heap.size W W') : InB BT B N M w tb xb a k' v' L xs W' := h.on (Spares.of_new hb) (h.pair.new HA hb)

theorem InB.up (h : InB BT B N M w tb xb a k' v' L xs W) : ∀ i, W.heap.size ≤ i → area B N M i := fun i hi => ⟨by have := h.NM; have := h.MW; have := h.BN; omega, .inr (by have := h.MW; omega)⟩

theorem InB.says (h : InB BT B N M w tb xb a k' v' L xs W) : Says W k' a.kb ∧ Says W v' a.vb ∧ Says W a.ka a.kb ∧ Says W a.va a.vb ∧ Says W a.fa a.fb ∧ Says W a.ta a.tb := by
  have h1 := h.ka.2
  have h2 := h.va.2
  have h3 := h.NM
  have h4 := h.MW
  have h5 := h.BN
  exact ⟨h.k.shows (by unfold maxLen; omega), h.v.shows (by unfold maxLen; omega), h.ka.1.mono (by omega), h.va.1.mono (by omega), h.fa.1.mono (by omega), h.ta.1.mono (by omega)⟩

theorem InB.fine (h : InB BT B N M w tb xb a k' v' L xs W) : Fine (a.kb, a.vb) := ⟨h.ka.2, h.va.2⟩

theorem InB.cells (h : InB BT B N M w tb xb a k' v' L xs W) : W.cell? ⟨N, 0, none⟩ = some (.int .i64 a.d) ∧ W.cell? ⟨N, 1, none⟩ = some a.ka ∧ W.cell? ⟨N, 2, none⟩ = some a.va ∧ W.cell? ⟨N, 3, none⟩ = some a.fa ∧ W.cell? ⟨N, 4, none⟩ = some a.ta ∧ W.cell? ⟨N, 5, none⟩ = some (.bool a.en) := by
  have hb := h.box
  exact ⟨by simp [World.cell?, hb], by simp [World.cell?, hb], by simp [World.cell?, hb], by simp [World.cell?, hb], by simp [World.cell?, hb], by simp [World.cell?, hb]⟩

include HA
theorem in_put (h : InB BT B N M w tb xb a k' v' L xs W) (hfew : L.length < 100000) :
    Calls Try.prog 11 #[.pointer (some ⟨tb, 0, none⟩), k', v'] W fun e W' => e = .returned (.bool (hitK L a.kb)) ∧ InB BT B N M w tb xb a k' v' (putL L (a.kb, a.vb)) xs W' :=
  (pair_put HA k' v' a.kb a.vb h.pair h.up h.says.1 h.says.2.1 h.fine hfew).mono fun e W' ⟨h1, h2, h3⟩ => ⟨h1, h.on h3 h2⟩

theorem in_xput (h : InB BT B N M w tb xb a k' v' L xs W) (hfew : xs.length < 100000) :
    Calls Try.prog 32 #[.pointer (some ⟨xb, 0, none⟩), a.ka, a.va] W fun e W' => e = .returned (.bool (hitK (xs.map EntV.ent) a.kb)) ∧ ∃ ys, InB BT B N M w tb xb a k' v' L ys W' ∧ ys.map EntV.ent = putL (xs.map EntV.ent) (a.kb, a.vb) :=
  (pair_xput HA a.ka a.va a.kb a.vb h.pair h.up h.says.2.2.1 h.says.2.2.2.1 h.fine hfew).mono fun e W' ⟨h1, ys, h2, h4, h3⟩ => ⟨h1, ys, h.on h3 h2, h4⟩

theorem in_delete (h : InB BT B N M w tb xb a k' v' L xs W) (hfew : L.length < 100000) :
    Calls Try.prog 17 #[.pointer (some ⟨tb, 0, none⟩), k'] W fun e W' => e = .returned (.bool (hitK L a.kb)) ∧ InB BT B N M w tb xb a k' v' (delL L a.kb) xs W' :=
  (pair_delete HA k' a.kb h.pair h.up h.says.1 hfew).mono fun e W' ⟨h1, h2, h3⟩ => ⟨h1, h.on h3 h2⟩

theorem in_xdelete (h : InB BT B N M w tb xb a k' v' L xs W) (hfew : xs.length < 100000) :
    Calls Try.prog 33 #[.pointer (some ⟨xb, 0, none⟩), a.ka] W fun e W' => e = .returned (.bool (hitK (xs.map EntV.ent) a.kb)) ∧ ∃ ys, InB BT B N M w tb xb a k' v' L ys W' ∧ ys.map EntV.ent = delL (xs.map EntV.ent) a.kb :=
  (pair_xdelete HA a.ka a.kb h.pair h.up h.says.2.2.1 hfew).mono fun e W' ⟨h1, ys, h2, h4, h3⟩ => ⟨h1, ys, h.on h3 h2, h4⟩

theorem in_get (h : InB BT B N M w tb xb a k' v' L xs W) (hfew : L.length < 100000) :
    Calls Try.prog 22 #[.pointer (some ⟨tb, 0, none⟩), k'] W fun e W' => ∃ p c, e = .returned (.tuple #[.slice p ((lookL L a.kb).getD []).length c, .bool (hitK L a.kb)]) ∧ Copy W.heap.size W' (.slice p ((lookL L a.kb).getD []).length c) ((lookL L a.kb).getD []) ∧ Below W.heap.size W W' :=
  (HA.getB k' a.kb h.pair.tree h.says.1 hfew).mono fun e W' ⟨v', h1, h2, h3⟩ => by
    obtain ⟨p, c, rfl⟩ := h2.form
    exact ⟨p, c, h1, h2, h3⟩

theorem in_xget (h : InB BT B N M w tb xb a k' v' L xs W) (hx : xs.map EntV.ent = L) (hfew : xs.length < 100000) :
    Calls Try.prog 34 #[.pointer (some ⟨xb, 0, none⟩), a.ka] W fun e W' => ∃ p c, e = .returned (.tuple #[.slice p ((lookL L a.kb).getD []).length c, .bool (hitK L a.kb)]) ∧ Copy W.heap.size W' (.slice p ((lookL L a.kb).getD []).length c) ((lookL L a.kb).getD []) ∧ Below W.heap.size W W' := by
  obtain ⟨St, Sx, q1, q2, _⟩ := h.pair
  have hf : ∀ x ∈ xs, x.v.length ≤ 140737488351232 := fun x hx' => (HA.fine q1 x.ent (by rw [← hx]; exact List.mem_map_of_mem hx')).2
  refine (xget_any Sx xb xs a.ka a.kb W q2 h.says.2.2.1 hf (by omega)).mono fun e W' ⟨v', h1, h2, h3⟩ => ?_
  rw [hx] at h1 h2
  obtain ⟨p, c, rfl⟩ := h2.form
  exact ⟨p, c, h1, h2, h3⟩

theorem in_range (h : InB BT B N M w tb xb a k' v' L xs W) (hfew : L.length < 100000) :
    Calls Try.prog 14 #[.pointer (some ⟨tb, 0, none⟩), .agg #[a.fa, a.ta, .bool a.en]] W fun e W' => ∃ p c es, e = .returned (.slice p es.length c) ∧ Rowed W.heap.size W' (.slice p es.length c) es ∧ es.map EntV.ent = rangeL L a.fb a.tb a.en ∧ Below W.heap.size W W' := by
  refine (HA.rangeB a.fa a.ta a.fb a.tb a.en h.pair.tree h.says.2.2.2.2.1 h.says.2.2.2.2.2 hfew).mono ?_
  rintro e W' ⟨sv, es, rfl, q1, q2, q3⟩
  obtain ⟨⟨p, c, rfl⟩, _⟩ := row_form2 q1.row
  exact ⟨p, c, es, rfl, q1, q2, q3⟩

omit HA in
theorem in_xrange (h : InB BT B N M w tb xb a k' v' L xs W) (hfew : xs.length < 100000) :
    Calls Try.prog 36 #[.pointer (some ⟨xb, 0, none⟩), .agg #[a.fa, a.ta, .bool a.en]] W fun e W' => ∃ p c es, e = .returned (.slice p es.length c) ∧ Ents W'.heap.size W' (.slice p es.length c) es ∧ es.map EntV.ent = rangeL (xs.map EntV.ent) a.fb a.tb a.en ∧ Below W.heap.size W W' := by
  obtain ⟨St, Sx, q1, q2, _⟩ := h.pair
  refine (xrange_any Sx xb xs a.fa a.ta a.en a.fb a.tb W q2 h.says.2.2.2.2.1 h.says.2.2.2.2.2 (by omega)).mono ?_
  rintro e W' ⟨sv, rfl, q3, q4⟩
  obtain ⟨p, c, rfl, _⟩ := id q3
  exact ⟨p, c, _, rfl, q3, spanE_map _ _ _ _, q4⟩

/-- After the lending. -/
theorem in_make {W2 W3 : World} (hp : PairB BT (fun i => B ≤ i) w tb xb L xs) (hB : B ≤ w.heap.size) (hka : Lent8 B w a.ka a.kb) (hva : Lent8 B w a.va a.vb) (hfa : Lent8 B w a.fa a.fb) (hta : Lent8 B w a.ta a.tb)
    (hk : Lends (w.heap.size + 1) W2 k' a.kb) (hb2 : Below (w.heap.size + 1) (w.alloc (.cells #[.int .i64 a.d, a.ka, a.va, a.fa, a.ta, .bool a.en] 34)) W2) (hv : Lends W2.heap.size W3 v' a.vb) (hb3 : Below W2.heap.size W2 W3) :
    InB BT B w.heap.size W3.heap.size w tb xb a k' v' L xs W3 := by
  have hb1 : Below w.heap.size w (w.alloc (.cells #[.int .i64 a.d, a.ka, a.va, a.fa, a.ta, .bool a.en] 34)) := Below.alloc (Below.refl _ _) (Nat.le_refl _) _
  have hz : (w.alloc (.cells #[.int .i64 a.d, a.ka, a.va, a.fa, a.ta, .bool a.en] 34)).heap.size = w.heap.size + 1 := size_alloc1 _ _
  have z2 := hb2.size
  have z3 := hb3.size
  have hb : Below w.heap.size w W3 := (hb1.trans (hb2.mono (by omega))).trans (hb3.mono (by omega))
  have hk3 := hk.below hb3
  refine ⟨?_, ?_, hk3, hv.mono4 (by omega), fun g hg => (hk3.ltR4 g hg).2, fun g hg => (hv.ltR4 g hg).2, fun g hg e => ?_, hka.below (hb.mono hB), hva.below (hb.mono hB), hfa.below (hb.mono hB), hta.below (hb.mono hB), hb.mono hB, hB, by omega, Nat.le_refl _⟩
  · exact (hp.lt.mono (fun i hi => (⟨hi.1, .inl hi.2⟩ : area B w.heap.size W3.heap.size i))).new HA hb
  · exact (hb3.block _ (by omega)).trans ((hb2.block _ (by omega)).trans (heap_alloc_new w _))
  · have h1 := (hk.ltR4 g hg).2
    have h2 := (hv.ltR4 g e).1
    omega

theorem in_end (h : InB BT B N M w tb xb a k' v' L xs W) :
    Calls Try.prog 35 #[.slice (some ⟨W.heap.size, 0, none⟩) 2 2] (W.alloc (.cells #[k', v'] 30)) fun e W' => e = .returned (.bool true) ∧ PairB BT (fun i => B ≤ i) W' tb xb L xs ∧ Below B w W' := by
  have hN := h.NM
  have hM := h.MW
  have hbn := h.BN
  refine (own_two (N + 1) W k' v' (by omega) h.k.full4 h.v.full4 h.ne).mono ?_
  rintro e W' ⟨rfl, hs⟩
  refine ⟨rfl, (h.pair.keep HA hs (fun i hi => ?_)).mono (fun i hi => hi.1), h.below.trans (hs.below (fun i hi => ?_) (by omega))⟩
  · rintro (e | e)
    · have h1 := (h.k.ltR4 i e).1; have h2 := h.kM i e; have := hi.2; omega
    · have h1 := (h.v.ltR4 i e).1; have h2 := h.vM i e; have := hi.2; omega
  · rcases hi with e | e
    · have h1 := (h.k.ltR4 i e).1; omega
    · have h1 := (h.v.ltR4 i e).1; omega
end
end Go.Proofs.Ytjfipejfejmlaaa
