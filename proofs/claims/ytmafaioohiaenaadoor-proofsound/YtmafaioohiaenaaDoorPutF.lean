/- A tree of nodes with one leaf more: what it is, and where it lies. -/
import Derived.Test.YtmafaioohiaenaaDoorGetF
import Derived.Test.YtmafaioohiaenaaDoorHeld
namespace Go.Proofs.YtmafaioohiaenaaDoor
open Go.RowKit
set_option linter.unusedVariables false
set_option maxRecDepth 20000

namespace Nod
/-- Does the way go on behind this node? -/
def passes (place : Nat) : Nod → Bool
  | leaf _ _ _ _ _ => false
  | fork _ p _ _ => decide (p ≤ place)

/-- The node over which the new fork comes. -/
def spot : Nod → List UInt8 → Nat → Nod
  | leaf b kv vv k v, _, _ => leaf b kv vv k v
  | fork b p l r, key, place => if place < p then fork b p l r else if bit key p then r.spot key place else l.spot key place

/-- A new fork in a node's block, that node in a new one. -/
def mk (b : Nat) (old added : Nod) (key : List UInt8) (place : Nat) : Nod := if bit key place then fork b place old added else fork b place added old

/-- The same node in another block. -/
def move (nb : Nat) : Nod → Nod
  | leaf _ kv vv k v => leaf nb kv vv k v
  | fork _ p l r => fork nb p l r

def graft : Nod → List UInt8 → Nat → Nat → Nod → Nod
  | leaf b kv vv k v, key, place, nb, added => mk b (leaf nb kv vv k v) added key place
  | fork b p l r, key, place, nb, added => if place < p then mk b (fork nb p l r) added key place else if bit key p then fork b p l (r.graft key place nb added) else fork b p (l.graft key place nb added) r

theorem mk_tri (b : Nat) (old : Nod) (ba : Nat) (kv vv : Value) (key v : List UInt8) (place : Nat) : (mk b old (leaf ba kv vv key v) key place).tri = Tri.over old.tri (key, v) place := by
  unfold mk Tri.over
  split <;> rfl

theorem graft_tri : ∀ (x : Nod) (key : List UInt8) (place nb ba : Nat) (kv vv : Value) (v : List UInt8), (x.graft key place nb (leaf ba kv vv key v)).tri = x.tri.grow (key, v) place
  | leaf b _ _ _ _, key, place, nb, ba, kv, vv, v => by simp only [graft, tri, Tri.grow]; exact mk_tri _ _ _ _ _ _ _ _
  | fork b p l r, key, place, nb, ba, kv, vv, v => by
    simp only [graft, tri, Tri.grow]
    split
    · exact mk_tri _ _ _ _ _ _ _ _
    · split
      · simp only [tri, graft_tri r]
      · simp only [tri, graft_tri l]

theorem mk_blk (b : Nat) (old added : Nod) (key : List UInt8) (place : Nat) : (mk b old added key place).blk = b := by unfold mk; split <;> rfl

theorem graft_blk : ∀ (x : Nod) (key : List UInt8) (place nb : Nat) (added : Nod), (x.graft key place nb added).blk = x.blk
  | leaf b _ _ _ _, key, place, nb, added => mk_blk _ _ _ _ _
  | fork b p l r, key, place, nb, added => by
    simp only [graft]
    split
    · exact mk_blk _ _ _ _ _
    · split <;> rfl

theorem move_blk (nb : Nat) (x : Nod) : (x.move nb).blk = nb := by cases x <;> rfl
theorem move_cells (nb : Nat) (x : Nod) : (x.move nb).cells = x.cells := by cases x <;> rfl

theorem mk_blks (b : Nat) (old added : Nod) (key : List UInt8) (place i : Nat) : i ∈ (mk b old added key place).blks ↔ i = b ∨ i ∈ old.blks ∨ i ∈ added.blks := by
  unfold mk
  split <;> simp [blks, or_comm]

theorem graft_blks : ∀ (x : Nod) (key : List UInt8) (place nb : Nat) (added : Nod) (i : Nat), i ∈ (x.graft key place nb added).blks ↔ i ∈ x.blks ∨ i = nb ∨ i ∈ added.blks
  | leaf b _ _ _ _, key, place, nb, added, i => by simp [graft, mk_blks, blks]
  | fork b p l r, key, place, nb, added, i => by
    simp only [graft]
    split
    · rw [mk_blks]
      simp only [blks, List.mem_cons, List.mem_append]
      constructor
      · rintro (h | (h | h) | h)
        · exact .inl (.inl h)
        · exact .inr (.inl h)
        · exact .inl (.inr h)
        · exact .inr (.inr h)
      · rintro ((h | h) | h | h)
        · exact .inl h
        · exact .inr (.inl (.inr h))
        · exact .inr (.inl (.inl h))
        · exact .inr (.inr h)
    · split
      · simp only [blks, List.mem_cons, List.mem_append, graft_blks r]
        constructor
        · rintro (h | h | h | h | h)
          · exact .inl (.inl h)
          · exact .inl (.inr (.inl h))
          · exact .inl (.inr (.inr h))
          · exact .inr (.inl h)
          · exact .inr (.inr h)
        · rintro ((h | h | h) | h | h)
          · exact .inl h
          · exact .inr (.inl h)
          · exact .inr (.inr (.inl h))
          · exact .inr (.inr (.inr (.inl h)))
          · exact .inr (.inr (.inr (.inr h)))
      · simp only [blks, List.mem_cons, List.mem_append, graft_blks l]
        constructor
        · rintro (h | (h | h | h) | h)
          · exact .inl (.inl h)
          · exact .inl (.inr (.inl h))
          · exact .inr (.inl h)
          · exact .inr (.inr h)
          · exact .inl (.inr (.inr h))
        · rintro ((h | h | h) | h | h)
          · exact .inl h
          · exact .inr (.inl (.inl h))
          · exact .inr (.inr h)
          · exact .inr (.inl (.inr (.inl h)))
          · exact .inr (.inl (.inr (.inr h)))

theorem mk_nodup (b : Nat) (old added : Nod) (key : List UInt8) (place : Nat) (h1 : old.blks.Nodup) (h2 : added.blks.Nodup) (h3 : b ∉ old.blks) (h4 : b ∉ added.blks) (h5 : ∀ i ∈ old.blks, i ∉ added.blks) : (mk b old added key place).blks.Nodup := by
  unfold mk
  split
  · simp only [blks, List.nodup_cons, List.mem_append, not_or, List.nodup_append]
    exact ⟨⟨h3, h4⟩, h1, h2, fun a ha c hc e => h5 a ha (by rw [e]; exact hc)⟩
  · simp only [blks, List.nodup_cons, List.mem_append, not_or, List.nodup_append]
    exact ⟨⟨h4, h3⟩, h2, h1, fun a ha c hc e => h5 c hc (by rw [← e]; exact ha)⟩

theorem graft_nodup : ∀ (x : Nod) (key : List UInt8) (place nb : Nat) (added : Nod), x.blks.Nodup → added.blks.Nodup → nb ∉ x.blks → nb ∉ added.blks → (∀ i ∈ x.blks, i ∉ added.blks) → (x.graft key place nb added).blks.Nodup
  | leaf b _ _ _ _, key, place, nb, added, h1, h2, h3, h4, h5 => by
    simp only [blks, List.mem_singleton] at h3
    refine mk_nodup _ _ _ _ _ (by simp [blks]) h2 (by simp [blks]; omega) (h5 b (by simp [blks])) (fun i hi => by simp [blks] at hi; subst hi; exact h4)
  | fork b p l r, key, place, nb, added, h1, h2, h3, h4, h5 => by
    have h1' := h1
    simp only [blks, List.nodup_cons, List.mem_append, not_or, List.nodup_append] at h1
    obtain ⟨⟨hb1, hb2⟩, hl, hr, hd⟩ := h1
    simp only [blks, List.mem_cons, List.mem_append, not_or] at h3
    obtain ⟨n1, n2, n3⟩ := h3
    simp only [graft]
    split
    · refine mk_nodup _ _ _ _ _ ?_ h2 ?_ (h5 b (by simp [blks])) (fun i hi => ?_)
      · simp only [blks, List.nodup_cons, List.mem_append, not_or, List.nodup_append]
        exact ⟨⟨n2, n3⟩, hl, hr, hd⟩
      · simp only [blks, List.mem_cons, List.mem_append, not_or]
        exact ⟨fun e => n1 e.symm, hb1, hb2⟩
      · simp only [blks, List.mem_cons, List.mem_append] at hi
        rcases hi with rfl | hi
        · exact h4
        · exact h5 i (by simp only [blks, List.mem_cons, List.mem_append]; exact .inr hi)
    · have k5 : ∀ i ∈ l.blks, i ∉ added.blks := fun i hi => h5 i (by simp [blks, hi])
      have k6 : ∀ i ∈ r.blks, i ∉ added.blks := fun i hi => h5 i (by simp [blks, hi])
      have k7 := h5 b (by simp [blks])
      split
      · simp only [blks, List.nodup_cons, List.mem_append, not_or, List.nodup_append, graft_blks]
        refine ⟨⟨hb1, hb2, fun e => n1 e.symm, k7⟩, hl, graft_nodup r key place nb added hr h2 n3 h4 k6, fun a ha c hc e => ?_⟩
        subst e
        rcases hc with hc | hc | hc
        · exact hd a ha a hc rfl
        · exact n2 (by rw [← hc]; exact ha)
        · exact k5 a ha hc
      · simp only [blks, List.nodup_cons, List.mem_append, not_or, List.nodup_append, graft_blks]
        refine ⟨⟨⟨hb1, fun e => n1 e.symm, k7⟩, hb2⟩, graft_nodup l key place nb added hl h2 n2 h4 k5, hr, fun a ha c hc e => ?_⟩
        subst e
        rcases ha with ha | ha | ha
        · exact hd a ha a hc rfl
        · exact n3 (by rw [← ha]; exact hc)
        · exact k6 a hc ha

theorem spot_mem : ∀ (x : Nod) (key : List UInt8) (place : Nat), (x.spot key place).blk ∈ x.blks
  | leaf b _ _ _ _, key, place => by simp [spot, blk, blks]
  | fork b p l r, key, place => by
    simp only [spot]
    split
    · simp [blk, blks]
    · split
      · simp only [blks, List.mem_cons, List.mem_append]; exact .inr (.inr (spot_mem r key place))
      · simp only [blks, List.mem_cons, List.mem_append]; exact .inr (.inl (spot_mem l key place))

/-- The way stops at the spot. -/
theorem spot_of : ∀ (x : Nod) (key : List UInt8) (place : Nat) (ys : List Nod) (z : Nod), ys ++ [z] <+: x.way key → (∀ y ∈ ys, y.passes place = true) → z.passes place = false → z = x.spot key place
  | leaf b kv vv k v, key, place, ys, z, hp, hy, hz => by
    simp only [way] at hp
    have := hp.length_le
    simp at this
    subst this
    have := hp.eq_of_length (by simp)
    simpa [spot] using this
  | fork b p l r, key, place, ys, z, hp, hy, hz => by
    simp only [way] at hp
    cases ys with
    | nil =>
      obtain ⟨t, ht⟩ := hp
      simp only [List.nil_append, List.cons_append, List.cons.injEq] at ht
      obtain ⟨rfl, _⟩ := ht
      simp only [passes, decide_eq_false_iff_not, Nat.not_le] at hz
      simp [spot, hz]
    | cons y ys =>
      obtain ⟨t, ht⟩ := hp
      simp only [List.cons_append, List.cons.injEq] at ht
      obtain ⟨rfl, ht⟩ := ht
      have h1 := hy _ (List.mem_cons_self)
      simp only [passes, decide_eq_true_eq] at h1
      simp only [spot]
      rw [if_neg (by omega)]
      split
      · rename_i hb
        rw [if_pos hb] at ht
        exact spot_of r key place ys z ⟨t, ht⟩ (fun q hq => hy q (List.mem_cons_of_mem _ hq)) hz
      · rename_i hb
        rw [if_neg hb] at ht
        exact spot_of l key place ys z ⟨t, ht⟩ (fun q hq => hy q (List.mem_cons_of_mem _ hq)) hz

theorem mk_lies {w : World} {b place : Nat} {old added : Nod} {key : List UInt8} (hb : w.heap[b]? = some (.cells (mk b old added key place).cells 98 (0, 0))) (h1 : old.Lies w) (h2 : added.Lies w) : (mk b old added key place).Lies w := by
  unfold mk at *
  split at hb
  · rename_i h; rw [if_pos h]; exact ⟨hb, h1, h2⟩
  · rename_i h; rw [if_neg h]; exact ⟨hb, h2, h1⟩

theorem move_lies {w : World} {nb : Nat} {x : Nod} (hx : x.Lies w) (hb : w.heap[nb]? = some (.cells x.cells 98 (0, 0))) : (x.move nb).Lies w := by
  cases x with
  | leaf b kv vv k v => exact ⟨hb, hx.2.1, hx.2.2⟩
  | fork b p l r => exact ⟨hb, hx.2.1, hx.2.2⟩

/-- WHERE THE GROWN TREE LIES. -/
theorem graft_lies : ∀ {x : Nod} {w w' : World} {key : List UInt8} {place nb : Nat} {added : Nod}, x.Lies w → x.blks.Nodup → added.Lies w' → Bytes w w' →
    (∀ b ∈ x.blks, b ≠ (x.spot key place).blk → w'.heap[b]? = w.heap[b]?) →
    w'.heap[(x.spot key place).blk]? = some (.cells (mk (x.spot key place).blk ((x.spot key place).move nb) added key place).cells 98 (0, 0)) →
    w'.heap[nb]? = some (.cells (x.spot key place).cells 98 (0, 0)) → (x.graft key place nb added).Lies w'
  | leaf b kv vv k v, w, w', key, place, nb, added, hx, hn, ha, hb, hk, h1, h2 => mk_lies h1 ⟨h2, hx.2.1.bytes hb, hx.2.2.bytes hb⟩ ha
  | fork b p l r, w, w', key, place, nb, added, hx, hn, ha, hb, hk, h1, h2 => by
    have hn' := hn
    simp only [blks, List.nodup_cons, List.mem_append, not_or, List.nodup_append] at hn
    obtain ⟨⟨hb1, hb2⟩, hl, hr, hd⟩ := hn
    simp only [graft]
    by_cases hlt : place < p
    · simp only [spot, if_pos hlt] at h1 h2 hk ⊢
      have keep : ∀ y : Nod, y.Lies w → (∀ i ∈ y.blks, i ∈ l.blks ++ r.blks) → y.Lies w' := fun y hy hs => hy.keeps hb fun i hi => hk i (by simp only [blks, List.mem_cons]; exact .inr (hs i hi)) (fun e => by
        have := hs i hi
        rw [e] at this
        rcases List.mem_append.1 this with h | h
        · exact hb1 h
        · exact hb2 h)
      exact mk_lies h1 ⟨h2, keep l hx.2.1 (fun i hi => List.mem_append.2 (.inl hi)), keep r hx.2.2 (fun i hi => List.mem_append.2 (.inr hi))⟩ ha
    · simp only [spot, if_neg hlt] at h1 h2 hk ⊢
      cases hbit : bit key p with
      | true =>
        simp only [hbit, if_true] at h1 h2 hk ⊢
        have hs := spot_mem r key place
        refine ⟨?_, hx.2.1.keeps hb fun i hi => hk i (by simp [blks, hi]) (fun e => hd i hi _ hs e), graft_lies hx.2.2 hr ha hb (fun i hi => hk i (by simp [blks, hi])) h1 h2⟩
        rw [hk b (by simp [blks]) (fun e => hb2 (by rw [e]; exact hs))]
        have := hx.1
        simp only [at', graft_blk] at this ⊢
        exact this
      | false =>
        simp only [hbit, Bool.false_eq_true, if_false] at h1 h2 hk ⊢
        have hs := spot_mem l key place
        refine ⟨?_, graft_lies hx.2.1 hl ha hb (fun i hi => hk i (by simp [blks, hi])) h1 h2, hx.2.2.keeps hb fun i hi => hk i (by simp [blks, hi]) (fun e => hd _ hs i hi e.symm)⟩
        rw [hk b (by simp [blks]) (fun e => hb1 (by rw [e]; exact hs))]
        have := hx.1
        simp only [at', graft_blk] at this ⊢
        exact this
end Nod
end Go.Proofs.YtmafaioohiaenaaDoor

/- Contract of trie.Tree.branch. -/

namespace Go.Proofs.YtmafaioohiaenaaDoor
open Go.RowKit Go.Shelf
set_option linter.unusedVariables false
set_option maxRecDepth 20000
attribute [local go_sem] Oper.semAt_some

/-- Four new blocks. -/
theorem alloc4 (w : World) (o1 o2 o3 o4 : Obj) : ∃ w4, (((w.alloc o1).alloc o2).alloc o3).alloc o4 = w4 ∧ w4.heap[w.heap.size]? = some o1 ∧ w4.heap[w.heap.size + 1]? = some o2 ∧ w4.heap[w.heap.size + 2]? = some o3 ∧ w4.heap[w.heap.size + 3]? = some o4 ∧ Below w.heap.size w w4 ∧ w4.heap.size = w.heap.size + 4 := by
  obtain ⟨h0, h1, h2, hb, hz⟩ := alloc3 w o1 o2 o3
  have hn := World.alloc_heap_new (((w.alloc o1).alloc o2).alloc o3) o4
  have hb' := (Below.refl (((w.alloc o1).alloc o2).alloc o3).heap.size (((w.alloc o1).alloc o2).alloc o3)).alloc (Nat.le_refl _) o4
  rw [hz] at hn
  exact ⟨_, rfl, (hb'.block _ (by omega)).trans h0, (hb'.block _ (by omega)).trans h1, (hb'.block _ (by omega)).trans h2, hn, hb.trans (hb'.mono (by omega)), by rw [World.size_alloc, hz]⟩

/-- The blocks of a tree of nodes stand a change of others. -/
theorem spares_own {S : Nat → Prop} {w : World} {B : Nat} (hB : w.heap.size ≤ B) {β : Type} : OwnFrom B (fun (_ : β) (W : World) => Spares S w W) := fun _ W W' row hs hg hr =>
  hs.andThen (T := fun i => row = some i) (Spares.of_grown hg (fun k e => e)) (fun i hi => .inr (by have := (hr i hi).1; omega))

theorem cells_own {B g : Nat} {cs : Array Value} {t : TypeId} {β : Type} : OwnFrom B (fun (_ : β) (W : World) => W.heap[g]? = some (.cells cs t (0, 0))) := fun _ W W' row hs hg hr => by
  show W'.heap[g]? = _
  rw [hg.block g (Array.getElem?_eq_some_iff.1 hs).1 (fun e => ?_)]
  · exact hs
  · obtain ⟨_, o, ho, hc⟩ := hr g e.symm
    rw [hs] at ho
    cases ho
    cases hc

theorem Tryd.infoNodep : (Tryd.prog.info? 95).map (·.size) = some 1 := by kernel_rfl

theorem set5 {W : World} {b : Nat} {u0 u1 u2 u3 u4 : Value} {t : TypeId} (h : W.heap[b]? = some (.cells #[u0, u1, u2, u3, u4] t (0, 0))) (v0 v1 v2 v3 v4 : Value) :
    (((((W.setCell ⟨b, 0, none⟩ v0).setCell ⟨b, 1, none⟩ v1).setCell ⟨b, 2, none⟩ v2).setCell ⟨b, 3, none⟩ v3).setCell ⟨b, 4, none⟩ v4).heap[b]? = some (.cells #[v0, v1, v2, v3, v4] t (0, 0)) :=
  heap_setCell_same _ _ _ _ _ _ (heap_setCell_same _ _ _ _ _ _ (heap_setCell_same _ _ _ _ _ _ (heap_setCell_same _ _ _ _ _ _ (heap_setCell_same _ _ _ _ _ _ h))))

/-- A node rewritten, its old cells in a new block. -/
theorem branch_world (W : World) (b : Nat) (cs old : Array Value) (v0 v1 v2 v3 v4 : Value) (t : TypeId) (hs : cs.size = 5) (h : W.heap[b]? = some (.cells cs t (0, 0))) :
    ∃ W2, (((((W.setCell ⟨b, 0, none⟩ v0).setCell ⟨b, 1, none⟩ v1).setCell ⟨b, 2, none⟩ v2).setCell ⟨b, 3, none⟩ v3).setCell ⟨b, 4, none⟩ v4).alloc (.cells old t) = W2 ∧
      W2.heap[b]? = some (.cells #[v0, v1, v2, v3, v4] t (0, 0)) ∧ W2.heap[W.heap.size]? = some (.cells old t (0, 0)) ∧ Spares (fun i => i = b) W W2 := by
  obtain ⟨u0, u1, u2, u3, u4, rfl⟩ : ∃ u0 u1 u2 u3 u4, cs = #[u0, u1, u2, u3, u4] := by
    match cs, hs with
    | ⟨[u0, u1, u2, u3, u4]⟩, _ => exact ⟨u0, u1, u2, u3, u4, rfl⟩
  have h5 := set5 h v0 v1 v2 v3 v4
  have sp : Spares (fun i => i = b) W (((((W.setCell ⟨b, 0, none⟩ v0).setCell ⟨b, 1, none⟩ v1).setCell ⟨b, 2, none⟩ v2).setCell ⟨b, 3, none⟩ v3).setCell ⟨b, 4, none⟩ v4) :=
    ((((spares_set W ⟨b, 0, none⟩ v0).andThen (spares_set _ ⟨b, 1, none⟩ v1) (fun i hi => .inl hi)).andThen (spares_set _ ⟨b, 2, none⟩ v2) (fun i hi => .inl hi)).andThen (spares_set _ ⟨b, 3, none⟩ v3) (fun i hi => .inl hi)).andThen (spares_set _ ⟨b, 4, none⟩ v4) (fun i hi => .inl hi)
  have hz : (((((W.setCell ⟨b, 0, none⟩ v0).setCell ⟨b, 1, none⟩ v1).setCell ⟨b, 2, none⟩ v2).setCell ⟨b, 3, none⟩ v3).setCell ⟨b, 4, none⟩ v4).heap.size = W.heap.size := by simp [World.setCell]
  have hl := (Array.getElem?_eq_some_iff.1 h5).1
  refine ⟨_, rfl, (Below.heap_alloc _ _ _ hl).trans h5, ?_, sp.andThen (T := fun _ => False) (Spares.of_new ((Below.refl _ _).alloc (Nat.le_refl _) _)) (fun i hi => hi.elim)⟩
  have := World.alloc_heap_new (((((W.setCell ⟨b, 0, none⟩ v0).setCell ⟨b, 1, none⟩ v1).setCell ⟨b, 2, none⟩ v2).setCell ⟨b, 3, none⟩ v3).setCell ⟨b, 4, none⟩ v4) (.cells old t)
  rwa [hz] at this

theorem swap_world (W : World) (b : Nat) (u0 u1 u2 u3 u4 v3 v4 : Value) (t : TypeId) (h : W.heap[b]? = some (.cells #[u0, u1, u2, u3, u4] t (0, 0))) :
    ((W.drew.setCell ⟨b, 3, none⟩ v3).setCell ⟨b, 4, none⟩ v4).heap[b]? = some (.cells #[u0, u1, u2, v3, v4] t (0, 0)) ∧ Spares (fun i => i = b) W ((W.drew.setCell ⟨b, 3, none⟩ v3).setCell ⟨b, 4, none⟩ v4) :=
  ⟨heap_setCell_same _ _ _ _ _ _ (heap_setCell_same W.drew _ _ _ _ _ h), (Spares.andThen (b := W.drew) (T := fun i => i = b) ⟨rfl, rfl, rfl, Nat.le_refl _, fun _ _ _ => rfl⟩ (spares_set2 W.drew b 3 4 v3 v4) (fun i hi => .inl hi))⟩

theorem swap_end {Q : World → Prop} {W W5 : World} {b : Nat} {o : Option Obj} (h : W5.heap[b]? = o ∧ Spares (fun i => i = b) W W5) (k : ∀ W5, W5.heap[b]? = o → Spares (fun i => i = b) W W5 → Q W5) : Q W5 := k W5 h.1 h.2

/-- What is left where the loop is left. -/
def Grafted (w : World) (x : Nod) (key : List UInt8) (place ba : Nat) (kv vv : Value) (v : List UInt8) (z : Nod) (W : World) : Prop :=
  ∃ nb, w.heap.size ≤ nb ∧ W.heap[z.blk]? = some (.cells (Nod.mk z.blk (z.move nb) (.leaf ba kv vv key v) key place).cells 98 (0, 0)) ∧ W.heap[nb]? = some (.cells z.cells 98 (0, 0)) ∧ Spares (fun b => b = z.blk) w W

theorem grafted_own {w : World} {B : Nat} (hB : w.heap.size ≤ B) {x : Nod} {key : List UInt8} {place ba : Nat} {kv vv : Value} {v : List UInt8} {z : Nod} {β : Type} : OwnFrom B (fun (_ : β) (W : World) => Grafted w x key place ba kv vv v z W) := fun s W W' row hs hg hr => by
  obtain ⟨nb, h1, h2, h3, h4⟩ := hs
  exact ⟨nb, h1, cells_own s W W' row h2 hg hr, cells_own s W W' row h3 hg hr, spares_own hB s W W' row h4 hg hr⟩

/-- How the loop is left. -/
def Leaves (w : World) (x : Nod) (key : List UInt8) (place ba : Nat) (kv vv : Value) (v : List UInt8) (cd : Code) (pre : List (Step (some x) key)) (W : World) : Prop :=
  (cd = .exit 0 ∧ ∃ ys z, pre = ys ++ [z] ∧ (∀ y ∈ ys, y.1.passes place = true) ∧ z.1.passes place = false) ∧ ∃ z, pre.getLast? = some z ∧ Grafted w x key place ba kv vv v z.1 W

set_option linter.unusedSimpArgs false
set_option maxHeartbeats 4000000 in
theorem branch_any (tb ba place : Nat) (x : Nod) (kv vv : Value) (key v : List UInt8) (w : World) (ht : TreeAt w tb (some x)) (ha : (Nod.leaf ba kv vv key v).Lies w) (hna : ba ∉ x.blks) (hp : place < 1080) :
    Calls Tryd.prog 91 #[.pointer (some ⟨tb, 0, none⟩), .pointer (some ⟨ba, 0, none⟩), .int .i64 place] w fun e w' => (∃ u, e = .returned u) ∧ ∃ nb, w.heap.size ≤ nb ∧ (x.graft key place nb (.leaf ba kv vv key v)).Lies w' ∧ Spares (fun b => b = (x.spot key place).blk) w w' := by
  obtain ⟨hab, hak, hav⟩ := id ha
  obtain ⟨a, c, rfl, g1, g2, gn, g3⟩ := id hak
  clear g3 gn
  have hal : ba < w.heap.size := (Array.getElem?_eq_some_iff.1 hab).1
  have h0 : w.cell? ⟨ba, 0, none⟩ = some (.slice a key.length c) := by rw [cell_of_row _ _ _ _ _ _ hab]; rfl
  refine (callsIn_wide (n := 3)).1 ?_
  refine callsIn_of_wp_marks Tryd.func91 rfl trivial ?_ rfl
  simp only [Tryd.ntmps91, List.size_toArray, List.length_cons, List.length_nil, Nat.reduceAdd, Nat.reduceSub, Array.replicate_succ, Array.replicate_zero, List.push_toArray, List.append_toArray, List.nil_append, List.cons_append]
  gi_wp2_with (refine ⟨trivial, ?_⟩; gi_at_call 93; refine (callsIn_wide.2 (down_any _ _ _ _ _)).mono ?_; rintro e w' ⟨rfl, rfl⟩)
  obtain ⟨w4, hw4, c0, c1, c2, c3, hB0, hsz⟩ := alloc4 w (.cells #[.pointer (some ⟨ba, 0, none⟩)] 95) (.cells #[.int .i64 place] 3) (.cells #[.pointer (some ⟨tb, 0, none⟩)] 52) (.cells #[.slice a key.length c] 24)
  rw [hw4]
  clear hw4
  have ht4 := ht.new hB0
  have hs4 : Shows w.heap.size w4 (.slice a key.length c) key := hak.below hB0
  refine wpIn_rangeFunc_ownG rfl (by omega) (gf := 107) (lb := #[.pointer (some ⟨w.heap.size + 1 + 1, 0, none⟩), .pointer (some ⟨w.heap.size + 1 + 1 + 1, 0, none⟩)]) rfl trivial (enters_of Tryd.func107 (by kernel_rfl) rfl)
    (down_stops _ (w.heap.size + 1 + 1) (w.heap.size + 1 + 1 + 1) w.heap.size tb a key.length c key (some x) w4 (by rw [cell_of_row _ _ _ _ _ _ c2]; rfl) c3 hs4 ht4 ht.lt (by omega)) kpB_t (kpB_b (by omega) (by omega)) (Below.refl _ _) (fun _ => rfl)
    (fun pre W => (∀ y ∈ pre, y.1.passes place = true) ∧ Below w4.heap.size w4 W)
    (fun cd pre W => Leaves w x key place ba (.slice a key.length c) vv v cd pre W)
    (OwnFrom.and (ownFrom_pure _ _) (ownFrom_below (Nat.le_refl _) (Nat.le_refl _)))
    (fun cd s W W' row hs hg hr => by
      obtain ⟨h1, z, hz, hg'⟩ := hs
      exact ⟨h1, z, hz, grafted_own (by omega) s W W' row hg' hg hr⟩)
    ⟨fun y hy => (by cases hy), Below.refl _ _⟩
    (fun y => { tmps := #[.pointer (some ⟨tb, 0, none⟩), .pointer (some ⟨ba, 0, none⟩), .int .i64 place, undef, .pointer (some ⟨w.heap.size, 0, none⟩), .pointer (some ⟨w.heap.size + 1, 0, none⟩), y.1.at', undef, .pointer (some ⟨tb, 0, none⟩), .pointer (some ⟨ba, 0, none⟩), .pointer (some ⟨ba, 0, none⟩), .pointer (some ⟨ba, 0, none⟩), .pointer (some ⟨ba, 0, none⟩), .slice a key.length c, .func (.func 107) #[] #[.pointer (some ⟨w.heap.size + 1 + 1, 0, none⟩), .pointer (some ⟨w.heap.size + 1 + 1 + 1, 0, none⟩)], y.1.at', undef, undef, undef, undef, undef, undef, undef, undef, undef, undef, undef, undef, undef, undef, undef, undef, undef, undef, undef, undef, undef, undef, undef, undef, undef, undef, undef, undef, undef, undef, undef, undef, undef, undef, undef, undef, undef, undef, undef, undef], defers := [] }) ?assign ?body ?done ?stop
  case assign =>
    intro l x W K hK
    gi_wp2
    exact hK
  case done =>
    rintro D ys W hD hS ⟨hpass, hB⟩ hK
    exfalso
    have hm := Nod.end_mem x key
    rw [show x.way key = ys.map (·.1) from hS.symm] at hm
    obtain ⟨y, hy, e⟩ := List.mem_map.1 hm
    have := hpass y hy
    obtain ⟨b', kv', vv', k', v', he, _⟩ := Nod.end_leaf x key
    rw [e, he] at this
    cases this
  case stop =>
    rintro D cd pre W hD hpre ⟨⟨rfl, ys, z, rfl, hy, hz⟩, z', hz', hG⟩ hK
    have hzz : z = z' := by simpa using hz'
    subst hzz
    have hsp : z.1 = x.spot key place := Nod.spot_of x key place (ys.map (·.1)) z.1 (by simpa [wayO] using hpre) (fun y hy' => by obtain ⟨q, hq, e⟩ := List.mem_map.1 hy'; rw [← e]; exact hy q hq) hz
    rw [hsp] at hG
    have hG2 : Grafted w x key place ba (.slice a key.length c) vv v (x.spot key place) (W.putObj D (.deferred none)) :=
      grafted_own (B := w4.heap.size) (by omega) () W _ (some D) hG (grownBy_putObj' W D (.deferred none)) (fun r e => by cases e; exact ⟨hD, _, hK, rfl⟩)
    have HF : Hid (∃ nb, w.heap.size ≤ nb ∧ (x.graft key place nb (.leaf ba (.slice a key.length c) vv key v)).Lies (W.putObj D (.deferred none)) ∧ Spares (fun b => b = (x.spot key place).blk) w (W.putObj D (.deferred none))) := hid (by
      obtain ⟨nb, h1, h2, h3, h4⟩ := hG2
      have hby : Bytes w (W.putObj D (.deferred none)) := ht.bytes (h4.mono fun i hi => .inr ⟨x, rfl, by rw [hi]; exact Nod.spot_mem x key place⟩)
      have hsb : (x.spot key place).blk ≠ ba := fun e => hna (by rw [← e]; exact Nod.spot_mem x key place)
      exact ⟨nb, h1, Nod.graft_lies (ht.lies x rfl) (ht.nodup x rfl) (ha.keeps hby fun i hi => h4.block i (by simp [Nod.blks] at hi; omega) (by simp [Nod.blks] at hi; subst hi; exact fun e => hsb e.symm)) hby (fun i hi hne => h4.block i ((ht.lies x rfl).lt i hi) hne) h2 h3, h4⟩)
    clear hG hG2
    gi_wp2
    refine ⟨by simp, .inl ⟨_, _, rfl, run_takeDeferred hK, ?_⟩⟩
    exact ⟨_, results_none rfl _ _ _, ⟨_, rfl⟩, HF.out⟩
  case body =>
    rintro l pre ⟨y, hy⟩ W ⟨hpass, hB⟩ _
    have hyl := (Nod.way_lies ((ht4.lies x rfl)) y hy).new hB
    have hyw := Nod.ok_way (show x.tri.WF from ht.wf) y hy
    have hyb : y.blk < w.heap.size := ht.lt _ (.inr ⟨x, rfl, Nod.way_blks y hy _ y.blk_mem⟩)
    have hp0 : W.cell? ⟨w.heap.size, 0, none⟩ = some (.pointer (some ⟨ba, 0, none⟩)) := by rw [hB.cell (p := ⟨w.heap.size, 0, none⟩) (by show w.heap.size < _; omega), cell_of_row _ _ _ _ _ _ c0]; rfl
    have hp1 : W.cell? ⟨w.heap.size + 1, 0, none⟩ = some (.int .i64 place) := by rw [hB.cell (p := ⟨w.heap.size + 1, 0, none⟩) (by show w.heap.size + 1 < _; omega), cell_of_row _ _ _ _ _ _ c1]; rfl
    cases y with
    | leaf b lk lv k' v' =>
      obtain ⟨ak, ck, rfl, _⟩ := id hyl.2.1
      obtain ⟨av, cv, rfl, _⟩ := id hyl.2.2
      have hl := fun m => isLeaf_any b none (W.drewN m) (by show W.cell? _ = _; rw [cell_of_row _ _ _ _ _ _ hyl.1]; rfl)
      simp only [Nod.at']
      rw [show (Nod.leaf b (.slice ak k'.length ck) (.slice av v'.length cv) k' v').blk = b from rfl]
      simp only [Option.isNone_none] at hl
      gi_wp2
      refine quiet_in_round (by kernel_rfl) (by kernel_rfl) (by kernel_rfl) (by rintro ⟨_, _, h⟩; exact h) ?_
      repeat (go_big_quiet_step ((go_at_call 94; exact Calls.quiet_of_same (hl _))))
      refine wpQuiet_nil ?_
      intro _ hw'
      obtain ⟨nq, hw''⟩ := hw'
      subst hw''
      have hB1 : Below w4.heap.size w4 (W.drewN nq) := hB.trans (below_drewN _ _ _)
      have hy1 : (Nod.leaf b (.slice ak k'.length ck) (.slice av v'.length cv) k' v').Lies (W.drewN nq) := hyl.new (below_drewN _ _ _)
      have HKF : Hid (KeepsFrom w4.heap.size W (W.drewN nq)) := hid ⟨Nat.le_refl _, fun _ _ _ h _ => h⟩
      have hp0' : (W.drewN nq).cell? ⟨w.heap.size, 0, none⟩ = some (.pointer (some ⟨ba, 0, none⟩)) := hp0
      have hp1' : (W.drewN nq).cell? ⟨w.heap.size + 1, 0, none⟩ = some (.int .i64 place) := hp1
      clear hl hp0 hp1 hyl hB
      generalize W.drewN nq = W1 at *
      have q0 : W1.cell? ⟨b, 0, none⟩ = some (.slice ak k'.length ck) := by rw [cell_of_row _ _ _ _ _ _ hy1.1]; rfl
      have q1 : W1.cell? ⟨b, 1, none⟩ = some (.slice av v'.length cv) := by rw [cell_of_row _ _ _ _ _ _ hy1.1]; rfl
      have q2 : W1.cell? ⟨b, 2, none⟩ = some (.int .i64 0) := by rw [cell_of_row _ _ _ _ _ _ hy1.1]; rfl
      have q3 : W1.cell? ⟨b, 3, none⟩ = some (.pointer none) := by rw [cell_of_row _ _ _ _ _ _ hy1.1]; rfl
      have q4 : W1.cell? ⟨b, 4, none⟩ = some (.pointer none) := by rw [cell_of_row _ _ _ _ _ _ hy1.1]; rfl
      have qf : ∀ j, W1.frozen? ⟨b, j, none⟩ = false := fun j => by simp [World.frozen?, hy1.1]
      have HY1 := hid hy1
      have HB1 := hid hB1
      have l0 : w.heap.size < W1.heap.size := by have := hB1.size; omega
      have l1 : w.heap.size + 1 < W1.heap.size := by have := hB1.size; omega
      have lb : b < W1.heap.size := (Array.getElem?_eq_some_iff.1 hy1.1).1
      have la : ba < W1.heap.size := by have := hB1.size; omega
      have nb1 : b ≠ w.heap.size := by have : b < w.heap.size := hyb; omega
      have nb2 : b ≠ w.heap.size + 1 := by have : b < w.heap.size := hyb; omega
      clear hy1 hB1
      gi_wp2
      obtain ⟨W2, hW2, d1, d2, d3⟩ := branch_world W1 b (Nod.leaf b (.slice ak k'.length ck) (.slice av v'.length cv) k' v').cells #[.slice ak k'.length ck, .slice av v'.length cv, .int .i64 0, .pointer none, .pointer none] (.slice none 0 0) (.slice none 0 0) (.int .i64 place) (.pointer (some ⟨W1.heap.size, 0, none⟩)) (.pointer (some ⟨ba, 0, none⟩)) 98 rfl HY1.out.1
      rw [hW2]
      have hZ : (#[.slice ak k'.length ck, .slice av v'.length cv, .int .i64 0, .pointer none, .pointer none] : Array Value) = (Nod.leaf b (.slice ak k'.length ck) (.slice av v'.length cv) k' v').cells := rfl
      rw [hZ] at d2
      have HZP : Hid ((Nod.leaf b (.slice ak k'.length ck) (.slice av v'.length cv) k' v').passes place = false) := hid rfl
      have HZB : Hid ((Nod.leaf b (.slice ak k'.length ck) (.slice av v'.length cv) k' v').blk = b) := hid rfl
      generalize Nod.leaf b (.slice ak k'.length ck) (.slice av v'.length cv) k' v' = z at *
      have HD1 := hid d1
      have HD2 := hid d2
      have HD3 := hid d3
      have e0 := d3.cell hp0' (fun e => nb1 e.symm)
      have e1 := d3.cell hp1' (fun e => nb2 e.symm)
      have ea : W2.cell? ⟨ba, 0, none⟩ = some (.slice a key.length c) := by
        have : W1.cell? ⟨ba, 0, none⟩ = some (.slice a key.length c) := by rw [HB1.out.cell (p := ⟨ba, 0, none⟩) (by show ba < _; omega), hB0.cell (p := ⟨ba, 0, none⟩) hal]; exact h0
        exact d3.cell this (fun e => hna (by rw [show ba = z.blk from e.trans HZB.out.symm]; exact Nod.way_blks z hy _ z.blk_mem))
      have hby : Bytes W1 W2 := ⟨d3.size, fun ad n hc => d3.cell hc (fun e => by
        obtain ⟨cs, h1, h2⟩ := HY1.out.all z.blk z.blk_mem
        rw [HZB.out] at h1
        unfold World.cell? at hc
        rw [e, h1] at hc
        simp only at hc
        split at hc
        · cases hc
        · exact h2 _ _ hc)⟩
      have hbit := fun m => bit_any _ (.slice a key.length c) key place (W2.drewN m) (((((hak.new hB0).new HB1.out).bytes hby).new (below_drewN _ _ _))) (by omega) (by omega)
      simp only [bitI_nat] at hbit
      have HFK : Hid (KeepsFrom w4.heap.size W W2) := hid ⟨Nat.le_trans HKF.out.size d3.size, fun k o hk1 hk2 hk3 => (d3.block k (Array.getElem?_eq_some_iff.1 (HKF.out.same k o hk1 hk2 hk3)).1 (fun e => by
        have hl1 := HY1.out.block
        rw [HZB.out] at hl1
        rw [e] at hk2
        have := HKF.out.same b o (by rw [← e]; exact hk1) hk2 hk3
        rw [hl1] at this
        cases this
        cases hk3)).trans (HKF.out.same k o hk1 hk2 hk3)⟩
      have HSP : Hid (Spares (fun i => i = b) w W2) := hid ((Spares.of_new (S := fun i => i = b) (hB0.trans (HB1.out.mono (by omega)))).andThen d3 (fun i hi => .inl hi))
      have HNB : Hid (w.heap.size ≤ W1.heap.size) := hid (by omega)
      clear hW2 q0 q1 q2 q3 q4 qf d1 d2 d3 hp0' hp1'
      cases hb : bit key place with
      | true =>
        simp only [hb] at hbit
        refine quiet_in_round (by kernel_rfl) (by kernel_rfl) (by kernel_rfl) (by rintro ⟨_, _, h⟩; exact h) ?_
        repeat (go_big_quiet_step ((go_at_call 80; exact Calls.quiet_of_same (hbit _))))
        refine wpQuiet_nil ?_
        intro _ hw'
        obtain ⟨nq2, hw''⟩ := hw'
        subst hw''
        gi_wp2
        refine ⟨HFK.out.trans ⟨Nat.le_refl _, fun _ _ _ h _ => h⟩, ⟨rfl, pre, ⟨z, hy⟩, rfl, hpass, HZP.out⟩, ⟨z, hy⟩, by simp, W1.heap.size, HNB.out, ?_, HD2.out, ?_⟩
        · simp only [HZB.out, Nod.mk, if_pos hb, Nod.cells, Nod.at', Nod.move_blk]
          exact HD1.out
        · simp only [HZB.out]
          exact HSP.out.andThen (T := fun _ => False) ⟨rfl, rfl, rfl, Nat.le_refl _, fun _ _ _ => rfl⟩ (fun i hi => hi.elim)
      | false =>
        simp only [hb] at hbit
        refine quiet_in_round (by kernel_rfl) (by kernel_rfl) (by kernel_rfl) (by rintro ⟨_, _, h⟩; exact h) ?_
        repeat (go_big_quiet_step ((go_at_call 80; exact Calls.quiet_of_same (hbit _))))
        refine wpQuiet_nil ?_
        intro _ hw'
        obtain ⟨nq2, hw''⟩ := hw'
        subst hw''
        have HD1' : Hid ((W2.drewN nq2).heap[b]? = _) := hid HD1.out
        have HD2' : Hid ((W2.drewN nq2).heap[W1.heap.size]? = _) := hid HD2.out
        have HFK' : Hid (KeepsFrom w4.heap.size W (W2.drewN nq2)) := hid (HFK.out.trans ⟨Nat.le_refl _, fun _ _ _ h _ => h⟩)
        have HSP' : Hid (Spares (fun i => i = b) w (W2.drewN nq2)) := hid (HSP.out.andThen (T := fun _ => False) ⟨rfl, rfl, rfl, Nat.le_refl _, fun _ _ _ => rfl⟩ (fun i hi => hi.elim))
        clear HD1 HD2 HFK HSP hbit e0 e1 ea HD3 hby
        generalize W2.drewN nq2 = W3 at *
        have r3 : W3.cell? ⟨b, 3, none⟩ = some (.pointer (some ⟨W1.heap.size, 0, none⟩)) := by rw [cell_of_row _ _ _ _ _ _ HD1'.out]; rfl
        have r4 : W3.cell? ⟨b, 4, none⟩ = some (.pointer (some ⟨ba, 0, none⟩)) := by rw [cell_of_row _ _ _ _ _ _ HD1'.out]; rfl
        have rf : ∀ j, W3.frozen? ⟨b, j, none⟩ = false := fun j => by simp [World.frozen?, HD1'.out]
        have r4' : (W3.drew.setCell ⟨b, 3, none⟩ (.pointer (some ⟨ba, 0, none⟩))).cell? ⟨b, 4, none⟩ = some (.pointer (some ⟨ba, 0, none⟩)) := by rw [cell_of_row _ _ _ _ _ _ (heap_setCell_same W3.drew b 3 _ _ _ HD1'.out)]; rfl
        have rf4' : (W3.drew.setCell ⟨b, 3, none⟩ (.pointer (some ⟨ba, 0, none⟩))).frozen? ⟨b, 4, none⟩ = false := by rw [World.frozen?_setCell]; exact rf 4
        have HNE : Hid (W1.heap.size ≠ b) := hid (by omega)
        have HF0 := hid (swap_world W3 b _ _ _ _ _ (.pointer (some ⟨ba, 0, none⟩)) (.pointer (some ⟨W1.heap.size, 0, none⟩)) _ HD1'.out)
        gi_wp2
        have HPS := hid hpass
        clear hpass hZ hyw hyb c0 c1 c2 c3 h0 hab hsz ht4 hs4 hB0 ht ha hak hav hna l0 l1 lb la nb1 nb2
        refine region_in_round (by kernel_rfl) (by kernel_rfl) (by rintro ⟨_, _, h⟩; exact h) ?_
        refine wpAny_take (i := 0) (v := ?_) rfl (by kernel_rfl) (by kernel_rfl) (by kernel_rfl) (fun _ _ _ h => h) (Or.inl ⟨by rfl, ?_⟩) ?_; rotate_left; (focus (intro w; go_simp <;> with_reducible rfl)); (try simp only [Act.put, List.setIfInBounds_toArray, List.set_cons_zero, List.set_cons_succ])
        refine wpAny_take (i := 1) (v := ?_) rfl (by kernel_rfl) (by kernel_rfl) (by kernel_rfl) (fun _ _ _ h => h) (Or.inl ⟨by rfl, ?_⟩) ?_; rotate_left; (focus (intro w; go_simp <;> with_reducible rfl)); (try simp only [Act.put, List.setIfInBounds_toArray, List.set_cons_zero, List.set_cons_succ])
        refine wpAny_take (i := 2) (v := ?_) rfl (by kernel_rfl) (by kernel_rfl) (by kernel_rfl) (fun _ _ _ h => h) (Or.inl ⟨by rfl, ?_⟩) ?_; rotate_left; (focus (intro w; go_simp <;> with_reducible rfl)); (try simp only [Act.put, List.setIfInBounds_toArray, List.set_cons_zero, List.set_cons_succ])
        refine wpAny_take (i := 3) (v := ?_) rfl (by kernel_rfl) (by kernel_rfl) (by kernel_rfl) (fun _ _ _ h => h) (Or.inl ⟨by rfl, ?_⟩) ?_; rotate_left; (focus (intro w; go_simp <;> with_reducible rfl)); (try simp only [Act.put, List.setIfInBounds_toArray, List.set_cons_zero, List.set_cons_succ])
        refine wpAny_take (i := 4) (v := ?_) rfl (by kernel_rfl) (by kernel_rfl) (by kernel_rfl) (fun _ _ _ h => h) (Or.inl ⟨by rfl, ?_⟩) ?_; rotate_left; (focus (intro w; go_simp <;> with_reducible rfl)); (try simp only [Act.put, List.setIfInBounds_toArray, List.set_cons_zero, List.set_cons_succ])
        refine wpAny_take (i := 6) (v := ?_) rfl (by kernel_rfl) (by kernel_rfl) (by kernel_rfl) (fun _ _ _ h => h) (Or.inl ⟨by rfl, ?_⟩) ?_; rotate_left; (focus (intro w; go_simp <;> with_reducible rfl)); (try simp only [Act.put, List.setIfInBounds_toArray, List.set_cons_zero, List.set_cons_succ])
        refine wpAny_take (i := 7) (v := ?_) rfl (by kernel_rfl) (by kernel_rfl) (by kernel_rfl) (fun _ _ _ h => h) (Or.inl ⟨by rfl, ?_⟩) ?_; rotate_left; (focus (intro w; go_simp <;> with_reducible rfl)); (try simp only [Act.put, List.setIfInBounds_toArray, List.set_cons_zero, List.set_cons_succ])
        refine wpAny_take (i := 8) (v := ?_) rfl (by kernel_rfl) (by kernel_rfl) (by kernel_rfl) (fun _ _ _ h => h) (Or.inl ⟨by rfl, ?_⟩) ?_; rotate_left; (focus (intro w; go_simp <;> with_reducible rfl)); (try simp only [Act.put, List.setIfInBounds_toArray, List.set_cons_zero, List.set_cons_succ])
        refine take_loads (i := 5) (j := 9) (pi := ⟨b, 4, none⟩) (pj := ⟨b, 3, none⟩) _ Tryd.underlying95 (by kernel_rfl) rfl rfl rfl rfl rfl rfl (by kernel_rfl) (by kernel_rfl) r4 r3 ?_ ?_
        · simp only [Act.put, List.setIfInBounds_toArray, List.set_cons_zero, List.set_cons_succ]
          refine take_load (i := 9) (pi := ⟨b, 3, none⟩) _ Tryd.underlying95 (by kernel_rfl) rfl rfl rfl (by kernel_rfl) r3 ?_
          simp only [Act.put, List.setIfInBounds_toArray, List.set_cons_zero, List.set_cons_succ]
          refine wpAny_take (i := 10) (v := ?_) rfl (by kernel_rfl) (by kernel_rfl) (by kernel_rfl) (fun _ _ _ h => h) (Or.inl ⟨by rfl, ?_⟩) ?_; rotate_left; (focus (intro w; go_simp <;> with_reducible rfl)); (try simp only [Act.put, List.setIfInBounds_toArray, List.set_cons_zero, List.set_cons_succ])
          refine wpAny_take (i := 11) (v := ?_) rfl (by kernel_rfl) (by kernel_rfl) (by kernel_rfl) (fun _ _ _ h => h) (Or.inl ⟨by rfl, ?_⟩) ?_; rotate_left; (focus (intro w; go_simp <;> with_reducible rfl)); (try simp only [Act.put, List.setIfInBounds_toArray, List.set_cons_zero, List.set_cons_succ])
          refine take_store (i := 12) (pi := ⟨b, 3, none⟩) (p := some ⟨ba, 0, none⟩) Tryd.infoNodep (by kernel_rfl) rfl rfl rfl rfl (by kernel_rfl) (by kernel_rfl) r3 (rf 3) ?_
          refine wpAny_take (i := 13) (v := ?_) rfl (by kernel_rfl) (by kernel_rfl) (by kernel_rfl) (fun _ _ _ h => h) (Or.inl ⟨by rfl, ?_⟩) ?_; rotate_left; (focus (intro w; go_simp <;> with_reducible rfl)); (try simp only [Act.put, List.setIfInBounds_toArray, List.set_cons_zero, List.set_cons_succ])
          refine wpAny_take (i := 14) (v := ?_) rfl (by kernel_rfl) (by kernel_rfl) (by kernel_rfl) (fun _ _ _ h => h) (Or.inl ⟨by rfl, ?_⟩) ?_; rotate_left; (focus (intro w; go_simp <;> with_reducible rfl)); (try simp only [Act.put, List.setIfInBounds_toArray, List.set_cons_zero, List.set_cons_succ])
          refine take_store (i := 15) (pi := ⟨b, 4, none⟩) (p := some ⟨W1.heap.size, 0, none⟩) Tryd.infoNodep (by kernel_rfl) rfl rfl rfl rfl (by kernel_rfl) (by kernel_rfl) r4' rf4' ?_
          refine wpAny_done (by kernel_rfl) ?_ _
          refine swap_end (Q := Exit.then _ _ Exit.normal _) HF0.out ?_
          intro W5 hf1 hf2
          have HF1 := hid hf1
          have HF2 := hid hf2
          clear hf1 hf2 r3 r4 rf r4' rf4' HF0
          gi_wp2
          refine ⟨HFK'.out.trans ⟨HF2.out.size, fun k o hk1 hk2 hk3 => (HF2.out.block k (Array.getElem?_eq_some_iff.1 hk2).1 (fun e => by rw [e, HD1'.out] at hk2; cases hk2; cases hk3)).trans hk2⟩, ⟨rfl, pre, ⟨z, hy⟩, rfl, HPS.out, HZP.out⟩, ⟨z, hy⟩, by simp, W1.heap.size, HNB.out, ?_, ?_, ?_⟩
          · simp only [HZB.out, Nod.mk, hb, Bool.false_eq_true, if_false, Nod.cells, Nod.at', Nod.move_blk]
            exact HF1.out
          · exact (HF2.out.block _ (Array.getElem?_eq_some_iff.1 HD2'.out).1 HNE.out).trans HD2'.out
          · simp only [HZB.out]
            exact HSP'.out.andThen HF2.out (fun i hi => .inl hi)
        · simp only [Act.put, List.setIfInBounds_toArray, List.set_cons_zero, List.set_cons_succ]
          refine take_load (i := 5) (pi := ⟨b, 4, none⟩) _ Tryd.underlying95 (by kernel_rfl) rfl rfl rfl (by kernel_rfl) r4 ?_
          simp only [Act.put, List.setIfInBounds_toArray, List.set_cons_zero, List.set_cons_succ]
          refine wpAny_take (i := 10) (v := ?_) rfl (by kernel_rfl) (by kernel_rfl) (by kernel_rfl) (fun _ _ _ h => h) (Or.inl ⟨by rfl, ?_⟩) ?_; rotate_left; (focus (intro w; go_simp <;> with_reducible rfl)); (try simp only [Act.put, List.setIfInBounds_toArray, List.set_cons_zero, List.set_cons_succ])
          refine wpAny_take (i := 11) (v := ?_) rfl (by kernel_rfl) (by kernel_rfl) (by kernel_rfl) (fun _ _ _ h => h) (Or.inl ⟨by rfl, ?_⟩) ?_; rotate_left; (focus (intro w; go_simp <;> with_reducible rfl)); (try simp only [Act.put, List.setIfInBounds_toArray, List.set_cons_zero, List.set_cons_succ])
          refine take_store (i := 12) (pi := ⟨b, 3, none⟩) (p := some ⟨ba, 0, none⟩) Tryd.infoNodep (by kernel_rfl) rfl rfl rfl rfl (by kernel_rfl) (by kernel_rfl) r3 (rf 3) ?_
          refine wpAny_take (i := 13) (v := ?_) rfl (by kernel_rfl) (by kernel_rfl) (by kernel_rfl) (fun _ _ _ h => h) (Or.inl ⟨by rfl, ?_⟩) ?_; rotate_left; (focus (intro w; go_simp <;> with_reducible rfl)); (try simp only [Act.put, List.setIfInBounds_toArray, List.set_cons_zero, List.set_cons_succ])
          refine wpAny_take (i := 14) (v := ?_) rfl (by kernel_rfl) (by kernel_rfl) (by kernel_rfl) (fun _ _ _ h => h) (Or.inl ⟨by rfl, ?_⟩) ?_; rotate_left; (focus (intro w; go_simp <;> with_reducible rfl)); (try simp only [Act.put, List.setIfInBounds_toArray, List.set_cons_zero, List.set_cons_succ])
          refine take_store (i := 15) (pi := ⟨b, 4, none⟩) (p := some ⟨W1.heap.size, 0, none⟩) Tryd.infoNodep (by kernel_rfl) rfl rfl rfl rfl (by kernel_rfl) (by kernel_rfl) r4' rf4' ?_
          refine wpAny_done (by kernel_rfl) ?_ _
          refine swap_end (Q := Exit.then _ _ Exit.normal _) HF0.out ?_
          intro W5 hf1 hf2
          have HF1 := hid hf1
          have HF2 := hid hf2
          clear hf1 hf2 r3 r4 rf r4' rf4' HF0
          gi_wp2
          refine ⟨HFK'.out.trans ⟨HF2.out.size, fun k o hk1 hk2 hk3 => (HF2.out.block k (Array.getElem?_eq_some_iff.1 hk2).1 (fun e => by rw [e, HD1'.out] at hk2; cases hk2; cases hk3)).trans hk2⟩, ⟨rfl, pre, ⟨z, hy⟩, rfl, HPS.out, HZP.out⟩, ⟨z, hy⟩, by simp, W1.heap.size, HNB.out, ?_, ?_, ?_⟩
          · simp only [HZB.out, Nod.mk, hb, Bool.false_eq_true, if_false, Nod.cells, Nod.at', Nod.move_blk]
            exact HF1.out
          · exact (HF2.out.block _ (Array.getElem?_eq_some_iff.1 HD2'.out).1 HNE.out).trans HD2'.out
          · simp only [HZB.out]
            exact HSP'.out.andThen HF2.out (fun i hi => .inl hi)
    | fork b p yl yr =>
      by_cases hpp : p ≤ place
      · have h2 : W.cell? ⟨b, 2, none⟩ = some (.int .i64 p) := by rw [cell_of_row _ _ _ _ _ _ hyl.1]; rfl
        have h3 : W.cell? ⟨b, 3, none⟩ = some yl.at' := by rw [cell_of_row _ _ _ _ _ _ hyl.1]; rfl
        have hl := fun m => isLeaf_any b (some ⟨yl.blk, 0, none⟩) (W.drewN m) h3
        have hpi : (p : Int) ≤ (place : Int) := by omega
        have hpb := Tri.place_bound p _ _ hyw
        simp only [Nod.at']
        rw [show (Nod.fork b p yl yr).blk = b from rfl]
        have h3' : W.cell? ⟨b, 3, none⟩ = some (.pointer (some ⟨yl.blk, 0, none⟩)) := h3
        clear h3
        simp only [Option.isNone_some] at hl
        generalize yl.blk = bl at *
        gi_wp2
        refine quiet_in_round (by kernel_rfl) (by kernel_rfl) (by kernel_rfl) (by rintro ⟨_, _, h⟩; exact h) ?_
        repeat (go_big_quiet_step ((go_at_call 94; exact Calls.quiet_of_same (hl _))))
        refine wpQuiet_nil ?_
        intro _ hw'
        obtain ⟨nq, hw''⟩ := hw'
        subst hw''
        gi_wp2
        refine ⟨⟨Nat.le_refl _, fun _ _ _ h _ => h⟩, ⟨below_drewN _ _ _, rfl⟩, fun q hq => ?_, hB.trans (below_drewN _ _ _)⟩
        rcases List.mem_append.1 hq with hq | hq
        · exact hpass q hq
        · simp at hq; subst hq; simp [Nod.passes, hpp]
      · have hpb := Tri.place_bound p _ _ hyw
        have hpi : (place : Int) < (p : Int) := by omega
        have hl := fun m => isLeaf_any b (some ⟨yl.blk, 0, none⟩) (W.drewN m) (by show W.cell? _ = _; rw [cell_of_row _ _ _ _ _ _ hyl.1]; rfl)
        have q2 : W.cell? ⟨b, 2, none⟩ = some (.int .i64 p) := by rw [cell_of_row _ _ _ _ _ _ hyl.1]; rfl
        simp only [Nod.at']
        rw [show (Nod.fork b p yl yr).blk = b from rfl]
        simp only [Option.isNone_some] at hl
        gi_wp2
        refine quiet_in_round (by kernel_rfl) (by kernel_rfl) (by kernel_rfl) (by rintro ⟨_, _, h⟩; exact h) ?_
        repeat (go_big_quiet_step ((go_at_call 94; exact Calls.quiet_of_same (hl _))))
        refine wpQuiet_nil ?_
        intro _ hw'
        obtain ⟨nq, hw''⟩ := hw'
        subst hw''
        have hB1 : Below w4.heap.size w4 (W.drewN nq) := hB.trans (below_drewN _ _ _)
        have hy1 : (Nod.fork b p yl yr).Lies (W.drewN nq) := hyl.new (below_drewN _ _ _)
        have HKF : Hid (KeepsFrom w4.heap.size W (W.drewN nq)) := hid ⟨Nat.le_refl _, fun _ _ _ h _ => h⟩
        have hp0' : (W.drewN nq).cell? ⟨w.heap.size, 0, none⟩ = some (.pointer (some ⟨ba, 0, none⟩)) := hp0
        have hp1' : (W.drewN nq).cell? ⟨w.heap.size + 1, 0, none⟩ = some (.int .i64 place) := hp1
        clear hl q2 hp0 hp1 hyl hB
        generalize W.drewN nq = W1 at *
        have q0 : W1.cell? ⟨b, 0, none⟩ = some (.slice none 0 0) := by rw [cell_of_row _ _ _ _ _ _ hy1.1]; rfl
        have q1 : W1.cell? ⟨b, 1, none⟩ = some (.slice none 0 0) := by rw [cell_of_row _ _ _ _ _ _ hy1.1]; rfl
        have q2 : W1.cell? ⟨b, 2, none⟩ = some (.int .i64 p) := by rw [cell_of_row _ _ _ _ _ _ hy1.1]; rfl
        have q3 : W1.cell? ⟨b, 3, none⟩ = some (.pointer (some ⟨yl.blk, 0, none⟩)) := by rw [cell_of_row _ _ _ _ _ _ hy1.1]; rfl
        have q4 : W1.cell? ⟨b, 4, none⟩ = some (.pointer (some ⟨yr.blk, 0, none⟩)) := by rw [cell_of_row _ _ _ _ _ _ hy1.1]; rfl
        have qf : ∀ j, W1.frozen? ⟨b, j, none⟩ = false := fun j => by simp [World.frozen?, hy1.1]
        obtain ⟨bl, hbl⟩ : ∃ bl, yl.blk = bl := ⟨_, rfl⟩
        obtain ⟨br, hbr⟩ : ∃ br, yr.blk = br := ⟨_, rfl⟩
        rw [hbl] at q3
        rw [hbr] at q4
        have HBL := hid hbl
        have HBR := hid hbr
        clear hbl hbr
        have HY1 := hid hy1
        have HB1 := hid hB1
        have l0 : w.heap.size < W1.heap.size := by have := hB1.size; omega
        have l1 : w.heap.size + 1 < W1.heap.size := by have := hB1.size; omega
        have lb : b < W1.heap.size := (Array.getElem?_eq_some_iff.1 hy1.1).1
        have la : ba < W1.heap.size := by have := hB1.size; omega
        have nb1 : b ≠ w.heap.size := by have : b < w.heap.size := hyb; omega
        have nb2 : b ≠ w.heap.size + 1 := by have : b < w.heap.size := hyb; omega
        clear hy1 hB1
        gi_wp2
        obtain ⟨W2, hW2, d1, d2, d3⟩ := branch_world W1 b (Nod.fork b p yl yr).cells #[.slice none 0 0, .slice none 0 0, .int .i64 p, .pointer (some ⟨bl, 0, none⟩), .pointer (some ⟨br, 0, none⟩)] (.slice none 0 0) (.slice none 0 0) (.int .i64 place) (.pointer (some ⟨W1.heap.size, 0, none⟩)) (.pointer (some ⟨ba, 0, none⟩)) 98 rfl HY1.out.1
        rw [hW2]
        have hZ : (#[.slice none 0 0, .slice none 0 0, .int .i64 p, .pointer (some ⟨bl, 0, none⟩), .pointer (some ⟨br, 0, none⟩)] : Array Value) = (Nod.fork b p yl yr).cells := by simp only [Nod.cells, Nod.at', HBL.out, HBR.out]
        rw [hZ] at d2
        have HZP : Hid ((Nod.fork b p yl yr).passes place = false) := hid (by simp [Nod.passes]; omega)
        have HZB : Hid ((Nod.fork b p yl yr).blk = b) := hid rfl
        generalize Nod.fork b p yl yr = z at *
        have HD1 := hid d1
        have HD2 := hid d2
        have HD3 := hid d3
        have e0 := d3.cell hp0' (fun e => nb1 e.symm)
        have e1 := d3.cell hp1' (fun e => nb2 e.symm)
        have ea : W2.cell? ⟨ba, 0, none⟩ = some (.slice a key.length c) := by
          have : W1.cell? ⟨ba, 0, none⟩ = some (.slice a key.length c) := by rw [HB1.out.cell (p := ⟨ba, 0, none⟩) (by show ba < _; omega), hB0.cell (p := ⟨ba, 0, none⟩) hal]; exact h0
          exact d3.cell this (fun e => hna (by rw [show ba = z.blk from e.trans HZB.out.symm]; exact Nod.way_blks z hy _ z.blk_mem))
        have hby : Bytes W1 W2 := ⟨d3.size, fun ad n hc => d3.cell hc (fun e => by
          obtain ⟨cs, h1, h2⟩ := HY1.out.all z.blk z.blk_mem
          rw [HZB.out] at h1
          unfold World.cell? at hc
          rw [e, h1] at hc
          simp only at hc
          split at hc
          · cases hc
          · exact h2 _ _ hc)⟩
        have hbit := fun m => bit_any _ (.slice a key.length c) key place (W2.drewN m) (((((hak.new hB0).new HB1.out).bytes hby).new (below_drewN _ _ _))) (by omega) (by omega)
        simp only [bitI_nat] at hbit
        have HFK : Hid (KeepsFrom w4.heap.size W W2) := hid ⟨Nat.le_trans HKF.out.size d3.size, fun k o hk1 hk2 hk3 => (d3.block k (Array.getElem?_eq_some_iff.1 (HKF.out.same k o hk1 hk2 hk3)).1 (fun e => by
          have hl1 := HY1.out.block
          rw [HZB.out] at hl1
          rw [e] at hk2
          have := HKF.out.same b o (by rw [← e]; exact hk1) hk2 hk3
          rw [hl1] at this
          cases this
          cases hk3)).trans (HKF.out.same k o hk1 hk2 hk3)⟩
        have HSP : Hid (Spares (fun i => i = b) w W2) := hid ((Spares.of_new (S := fun i => i = b) (hB0.trans (HB1.out.mono (by omega)))).andThen d3 (fun i hi => .inl hi))
        have HNB : Hid (w.heap.size ≤ W1.heap.size) := hid (by omega)
        clear hW2 q0 q1 q2 q3 q4 qf d1 d2 d3 hp0' hp1'
        cases hb : bit key place with
        | true =>
          simp only [hb] at hbit
          refine quiet_in_round (by kernel_rfl) (by kernel_rfl) (by kernel_rfl) (by rintro ⟨_, _, h⟩; exact h) ?_
          repeat (go_big_quiet_step ((go_at_call 80; exact Calls.quiet_of_same (hbit _))))
          refine wpQuiet_nil ?_
          intro _ hw'
          obtain ⟨nq2, hw''⟩ := hw'
          subst hw''
          gi_wp2
          refine ⟨HFK.out.trans ⟨Nat.le_refl _, fun _ _ _ h _ => h⟩, ⟨rfl, pre, ⟨z, hy⟩, rfl, hpass, HZP.out⟩, ⟨z, hy⟩, by simp, W1.heap.size, HNB.out, ?_, HD2.out, ?_⟩
          · simp only [HZB.out, Nod.mk, if_pos hb, Nod.cells, Nod.at', Nod.move_blk]
            exact HD1.out
          · simp only [HZB.out]
            exact HSP.out.andThen (T := fun _ => False) ⟨rfl, rfl, rfl, Nat.le_refl _, fun _ _ _ => rfl⟩ (fun i hi => hi.elim)
        | false =>
          simp only [hb] at hbit
          refine quiet_in_round (by kernel_rfl) (by kernel_rfl) (by kernel_rfl) (by rintro ⟨_, _, h⟩; exact h) ?_
          repeat (go_big_quiet_step ((go_at_call 80; exact Calls.quiet_of_same (hbit _))))
          refine wpQuiet_nil ?_
          intro _ hw'
          obtain ⟨nq2, hw''⟩ := hw'
          subst hw''
          have HD1' : Hid ((W2.drewN nq2).heap[b]? = _) := hid HD1.out
          have HD2' : Hid ((W2.drewN nq2).heap[W1.heap.size]? = _) := hid HD2.out
          have HFK' : Hid (KeepsFrom w4.heap.size W (W2.drewN nq2)) := hid (HFK.out.trans ⟨Nat.le_refl _, fun _ _ _ h _ => h⟩)
          have HSP' : Hid (Spares (fun i => i = b) w (W2.drewN nq2)) := hid (HSP.out.andThen (T := fun _ => False) ⟨rfl, rfl, rfl, Nat.le_refl _, fun _ _ _ => rfl⟩ (fun i hi => hi.elim))
          clear HD1 HD2 HFK HSP hbit e0 e1 ea HD3 hby
          generalize W2.drewN nq2 = W3 at *
          have r3 : W3.cell? ⟨b, 3, none⟩ = some (.pointer (some ⟨W1.heap.size, 0, none⟩)) := by rw [cell_of_row _ _ _ _ _ _ HD1'.out]; rfl
          have r4 : W3.cell? ⟨b, 4, none⟩ = some (.pointer (some ⟨ba, 0, none⟩)) := by rw [cell_of_row _ _ _ _ _ _ HD1'.out]; rfl
          have rf : ∀ j, W3.frozen? ⟨b, j, none⟩ = false := fun j => by simp [World.frozen?, HD1'.out]
          have r4' : (W3.drew.setCell ⟨b, 3, none⟩ (.pointer (some ⟨ba, 0, none⟩))).cell? ⟨b, 4, none⟩ = some (.pointer (some ⟨ba, 0, none⟩)) := by rw [cell_of_row _ _ _ _ _ _ (heap_setCell_same W3.drew b 3 _ _ _ HD1'.out)]; rfl
          have rf4' : (W3.drew.setCell ⟨b, 3, none⟩ (.pointer (some ⟨ba, 0, none⟩))).frozen? ⟨b, 4, none⟩ = false := by rw [World.frozen?_setCell]; exact rf 4
          have HNE : Hid (W1.heap.size ≠ b) := hid (by omega)
          have HF0 := hid (swap_world W3 b _ _ _ _ _ (.pointer (some ⟨ba, 0, none⟩)) (.pointer (some ⟨W1.heap.size, 0, none⟩)) _ HD1'.out)
          gi_wp2
          have HPS := hid hpass
          clear hpass hZ hyw hyb c0 c1 c2 c3 h0 hab hsz ht4 hs4 hB0 ht ha hak hav hna hpp hpb hpi l0 l1 lb la nb1 nb2
          refine region_in_round (by kernel_rfl) (by kernel_rfl) (by rintro ⟨_, _, h⟩; exact h) ?_
          refine wpAny_take (i := 0) (v := ?_) rfl (by kernel_rfl) (by kernel_rfl) (by kernel_rfl) (fun _ _ _ h => h) (Or.inl ⟨by rfl, ?_⟩) ?_; rotate_left; (focus (intro w; go_simp <;> with_reducible rfl)); (try simp only [Act.put, List.setIfInBounds_toArray, List.set_cons_zero, List.set_cons_succ])
          refine wpAny_take (i := 1) (v := ?_) rfl (by kernel_rfl) (by kernel_rfl) (by kernel_rfl) (fun _ _ _ h => h) (Or.inl ⟨by rfl, ?_⟩) ?_; rotate_left; (focus (intro w; go_simp <;> with_reducible rfl)); (try simp only [Act.put, List.setIfInBounds_toArray, List.set_cons_zero, List.set_cons_succ])
          refine wpAny_take (i := 2) (v := ?_) rfl (by kernel_rfl) (by kernel_rfl) (by kernel_rfl) (fun _ _ _ h => h) (Or.inl ⟨by rfl, ?_⟩) ?_; rotate_left; (focus (intro w; go_simp <;> with_reducible rfl)); (try simp only [Act.put, List.setIfInBounds_toArray, List.set_cons_zero, List.set_cons_succ])
          refine wpAny_take (i := 3) (v := ?_) rfl (by kernel_rfl) (by kernel_rfl) (by kernel_rfl) (fun _ _ _ h => h) (Or.inl ⟨by rfl, ?_⟩) ?_; rotate_left; (focus (intro w; go_simp <;> with_reducible rfl)); (try simp only [Act.put, List.setIfInBounds_toArray, List.set_cons_zero, List.set_cons_succ])
          refine wpAny_take (i := 4) (v := ?_) rfl (by kernel_rfl) (by kernel_rfl) (by kernel_rfl) (fun _ _ _ h => h) (Or.inl ⟨by rfl, ?_⟩) ?_; rotate_left; (focus (intro w; go_simp <;> with_reducible rfl)); (try simp only [Act.put, List.setIfInBounds_toArray, List.set_cons_zero, List.set_cons_succ])
          refine wpAny_take (i := 6) (v := ?_) rfl (by kernel_rfl) (by kernel_rfl) (by kernel_rfl) (fun _ _ _ h => h) (Or.inl ⟨by rfl, ?_⟩) ?_; rotate_left; (focus (intro w; go_simp <;> with_reducible rfl)); (try simp only [Act.put, List.setIfInBounds_toArray, List.set_cons_zero, List.set_cons_succ])
          refine wpAny_take (i := 7) (v := ?_) rfl (by kernel_rfl) (by kernel_rfl) (by kernel_rfl) (fun _ _ _ h => h) (Or.inl ⟨by rfl, ?_⟩) ?_; rotate_left; (focus (intro w; go_simp <;> with_reducible rfl)); (try simp only [Act.put, List.setIfInBounds_toArray, List.set_cons_zero, List.set_cons_succ])
          refine wpAny_take (i := 8) (v := ?_) rfl (by kernel_rfl) (by kernel_rfl) (by kernel_rfl) (fun _ _ _ h => h) (Or.inl ⟨by rfl, ?_⟩) ?_; rotate_left; (focus (intro w; go_simp <;> with_reducible rfl)); (try simp only [Act.put, List.setIfInBounds_toArray, List.set_cons_zero, List.set_cons_succ])
          refine take_loads (i := 5) (j := 9) (pi := ⟨b, 4, none⟩) (pj := ⟨b, 3, none⟩) _ Tryd.underlying95 (by kernel_rfl) rfl rfl rfl rfl rfl rfl (by kernel_rfl) (by kernel_rfl) r4 r3 ?_ ?_
          · simp only [Act.put, List.setIfInBounds_toArray, List.set_cons_zero, List.set_cons_succ]
            refine take_load (i := 9) (pi := ⟨b, 3, none⟩) _ Tryd.underlying95 (by kernel_rfl) rfl rfl rfl (by kernel_rfl) r3 ?_
            simp only [Act.put, List.setIfInBounds_toArray, List.set_cons_zero, List.set_cons_succ]
            refine wpAny_take (i := 10) (v := ?_) rfl (by kernel_rfl) (by kernel_rfl) (by kernel_rfl) (fun _ _ _ h => h) (Or.inl ⟨by rfl, ?_⟩) ?_; rotate_left; (focus (intro w; go_simp <;> with_reducible rfl)); (try simp only [Act.put, List.setIfInBounds_toArray, List.set_cons_zero, List.set_cons_succ])
            refine wpAny_take (i := 11) (v := ?_) rfl (by kernel_rfl) (by kernel_rfl) (by kernel_rfl) (fun _ _ _ h => h) (Or.inl ⟨by rfl, ?_⟩) ?_; rotate_left; (focus (intro w; go_simp <;> with_reducible rfl)); (try simp only [Act.put, List.setIfInBounds_toArray, List.set_cons_zero, List.set_cons_succ])
            refine take_store (i := 12) (pi := ⟨b, 3, none⟩) (p := some ⟨ba, 0, none⟩) Tryd.infoNodep (by kernel_rfl) rfl rfl rfl rfl (by kernel_rfl) (by kernel_rfl) r3 (rf 3) ?_
            refine wpAny_take (i := 13) (v := ?_) rfl (by kernel_rfl) (by kernel_rfl) (by kernel_rfl) (fun _ _ _ h => h) (Or.inl ⟨by rfl, ?_⟩) ?_; rotate_left; (focus (intro w; go_simp <;> with_reducible rfl)); (try simp only [Act.put, List.setIfInBounds_toArray, List.set_cons_zero, List.set_cons_succ])
            refine wpAny_take (i := 14) (v := ?_) rfl (by kernel_rfl) (by kernel_rfl) (by kernel_rfl) (fun _ _ _ h => h) (Or.inl ⟨by rfl, ?_⟩) ?_; rotate_left; (focus (intro w; go_simp <;> with_reducible rfl)); (try simp only [Act.put, List.setIfInBounds_toArray, List.set_cons_zero, List.set_cons_succ])
            refine take_store (i := 15) (pi := ⟨b, 4, none⟩) (p := some ⟨W1.heap.size, 0, none⟩) Tryd.infoNodep (by kernel_rfl) rfl rfl rfl rfl (by kernel_rfl) (by kernel_rfl) r4' rf4' ?_
            refine wpAny_done (by kernel_rfl) ?_ _
            refine swap_end (Q := Exit.then _ _ Exit.normal _) HF0.out ?_
            intro W5 hf1 hf2
            have HF1 := hid hf1
            have HF2 := hid hf2
            clear hf1 hf2 r3 r4 rf r4' rf4' HF0
            gi_wp2
            refine ⟨HFK'.out.trans ⟨HF2.out.size, fun k o hk1 hk2 hk3 => (HF2.out.block k (Array.getElem?_eq_some_iff.1 hk2).1 (fun e => by rw [e, HD1'.out] at hk2; cases hk2; cases hk3)).trans hk2⟩, ⟨rfl, pre, ⟨z, hy⟩, rfl, HPS.out, HZP.out⟩, ⟨z, hy⟩, by simp, W1.heap.size, HNB.out, ?_, ?_, ?_⟩
            · simp only [HZB.out, Nod.mk, hb, Bool.false_eq_true, if_false, Nod.cells, Nod.at', Nod.move_blk]
              exact HF1.out
            · exact (HF2.out.block _ (Array.getElem?_eq_some_iff.1 HD2'.out).1 HNE.out).trans HD2'.out
            · simp only [HZB.out]
              exact HSP'.out.andThen HF2.out (fun i hi => .inl hi)
          · simp only [Act.put, List.setIfInBounds_toArray, List.set_cons_zero, List.set_cons_succ]
            refine take_load (i := 5) (pi := ⟨b, 4, none⟩) _ Tryd.underlying95 (by kernel_rfl) rfl rfl rfl (by kernel_rfl) r4 ?_
            simp only [Act.put, List.setIfInBounds_toArray, List.set_cons_zero, List.set_cons_succ]
            refine wpAny_take (i := 10) (v := ?_) rfl (by kernel_rfl) (by kernel_rfl) (by kernel_rfl) (fun _ _ _ h => h) (Or.inl ⟨by rfl, ?_⟩) ?_; rotate_left; (focus (intro w; go_simp <;> with_reducible rfl)); (try simp only [Act.put, List.setIfInBounds_toArray, List.set_cons_zero, List.set_cons_succ])
            refine wpAny_take (i := 11) (v := ?_) rfl (by kernel_rfl) (by kernel_rfl) (by kernel_rfl) (fun _ _ _ h => h) (Or.inl ⟨by rfl, ?_⟩) ?_; rotate_left; (focus (intro w; go_simp <;> with_reducible rfl)); (try simp only [Act.put, List.setIfInBounds_toArray, List.set_cons_zero, List.set_cons_succ])
            refine take_store (i := 12) (pi := ⟨b, 3, none⟩) (p := some ⟨ba, 0, none⟩) Tryd.infoNodep (by kernel_rfl) rfl rfl rfl rfl (by kernel_rfl) (by kernel_rfl) r3 (rf 3) ?_
            refine wpAny_take (i := 13) (v := ?_) rfl (by kernel_rfl) (by kernel_rfl) (by kernel_rfl) (fun _ _ _ h => h) (Or.inl ⟨by rfl, ?_⟩) ?_; rotate_left; (focus (intro w; go_simp <;> with_reducible rfl)); (try simp only [Act.put, List.setIfInBounds_toArray, List.set_cons_zero, List.set_cons_succ])
            refine wpAny_take (i := 14) (v := ?_) rfl (by kernel_rfl) (by kernel_rfl) (by kernel_rfl) (fun _ _ _ h => h) (Or.inl ⟨by rfl, ?_⟩) ?_; rotate_left; (focus (intro w; go_simp <;> with_reducible rfl)); (try simp only [Act.put, List.setIfInBounds_toArray, List.set_cons_zero, List.set_cons_succ])
            refine take_store (i := 15) (pi := ⟨b, 4, none⟩) (p := some ⟨W1.heap.size, 0, none⟩) Tryd.infoNodep (by kernel_rfl) rfl rfl rfl rfl (by kernel_rfl) (by kernel_rfl) r4' rf4' ?_
            refine wpAny_done (by kernel_rfl) ?_ _
            refine swap_end (Q := Exit.then _ _ Exit.normal _) HF0.out ?_
            intro W5 hf1 hf2
            have HF1 := hid hf1
            have HF2 := hid hf2
            clear hf1 hf2 r3 r4 rf r4' rf4' HF0
            gi_wp2
            refine ⟨HFK'.out.trans ⟨HF2.out.size, fun k o hk1 hk2 hk3 => (HF2.out.block k (Array.getElem?_eq_some_iff.1 hk2).1 (fun e => by rw [e, HD1'.out] at hk2; cases hk2; cases hk3)).trans hk2⟩, ⟨rfl, pre, ⟨z, hy⟩, rfl, HPS.out, HZP.out⟩, ⟨z, hy⟩, by simp, W1.heap.size, HNB.out, ?_, ?_, ?_⟩
            · simp only [HZB.out, Nod.mk, hb, Bool.false_eq_true, if_false, Nod.cells, Nod.at', Nod.move_blk]
              exact HF1.out
            · exact (HF2.out.block _ (Array.getElem?_eq_some_iff.1 HD2'.out).1 HNE.out).trans HD2'.out
            · simp only [HZB.out]
              exact HSP'.out.andThen HF2.out (fun i hi => .inl hi)
end Go.Proofs.YtmafaioohiaenaaDoor

/- Contract of trie.Tree.Put. -/

namespace Go.Proofs.YtmafaioohiaenaaDoor
open Go.RowKit
set_option linter.unusedVariables false
set_option maxRecDepth 20000

namespace Nod
/-- Another value in the leaf to which a key leads. -/
def setv : Nod → List UInt8 → Value → List UInt8 → Nod
  | leaf b kv _ k _, _, vv, v => leaf b kv vv k v
  | fork b p l r, key, vv, v => if bit key p then fork b p l (r.setv key vv v) else fork b p (l.setv key vv v) r

theorem setv_tri : ∀ (x : Nod) (key : List UInt8) (vv : Value) (v : List UInt8), (x.setv key vv v).tri = x.tri.set (key, v)
  | leaf b kv _ k _, key, vv, v => rfl
  | fork b p l r, key, vv, v => by
    simp only [setv, tri, Tri.set]
    split
    · simp only [tri, setv_tri r]
    · simp only [tri, setv_tri l]

theorem setv_blk : ∀ (x : Nod) (key : List UInt8) (vv : Value) (v : List UInt8), (x.setv key vv v).blk = x.blk
  | leaf b kv _ k _, key, vv, v => rfl
  | fork b p l r, key, vv, v => by
    simp only [setv]
    split <;> rfl

theorem setv_blks : ∀ (x : Nod) (key : List UInt8) (vv : Value) (v : List UInt8), (x.setv key vv v).blks = x.blks
  | leaf b kv _ k _, key, vv, v => rfl
  | fork b p l r, key, vv, v => by
    simp only [setv]
    split
    · simp only [blks, setv_blks r]
    · simp only [blks, setv_blks l]

theorem end_blk : ∀ (x : Nod) (key : List UInt8), (x.end' key).blk ∈ x.blks
  | leaf b kv _ k _, key => by simp [end', blk, blks]
  | fork b p l r, key => by
    simp only [end', blks, List.mem_cons, List.mem_append]
    split
    · exact .inr (.inr (end_blk r key))
    · exact .inr (.inl (end_blk l key))

theorem setv_lies : ∀ {x : Nod} {w w' : World} {key : List UInt8} {vv : Value} {v : List UInt8}, x.Lies w → x.blks.Nodup → Bytes w w' → Says w' vv v →
    (∀ b ∈ x.blks, b ≠ (x.end' key).blk → w'.heap[b]? = w.heap[b]?) → (∀ b kv u k z, x.end' key = leaf b kv u k z → w'.heap[b]? = some (.cells #[kv, vv, .int .i64 0, .pointer none, .pointer none] 98 (0, 0))) → (x.setv key vv v).Lies w'
  | leaf b kv _ k _, w, w', key, vv, v, hx, hn, hb, hv, hk, he => ⟨he b kv _ k _ rfl, hx.2.1.bytes hb, hv⟩
  | fork b p l r, w, w', key, vv, v, hx, hn, hb, hv, hk, he => by
    simp only [blks, List.nodup_cons, List.mem_append, not_or, List.nodup_append] at hn
    obtain ⟨⟨hb1, hb2⟩, hl, hr, hd⟩ := hn
    simp only [setv]
    simp only [end'] at he hk
    cases hbit : bit key p with
    | true =>
      simp only [hbit, if_true] at he hk ⊢
      have hs := end_blk r key
      refine ⟨?_, hx.2.1.keeps hb fun i hi => hk i (by simp [blks, hi]) (fun e => hd i hi _ hs e), setv_lies hx.2.2 hr hb hv (fun i hi => hk i (by simp [blks, hi])) he⟩
      rw [hk b (by simp [blks]) (fun e => hb2 (by rw [e]; exact hs))]
      have := hx.1
      simp only [at', setv_blk] at this ⊢
      exact this
    | false =>
      simp only [hbit, Bool.false_eq_true, if_false] at he hk ⊢
      have hs := end_blk l key
      refine ⟨?_, setv_lies hx.2.1 hl hb hv (fun i hi => hk i (by simp [blks, hi])) he, hx.2.2.keeps hb fun i hi => hk i (by simp [blks, hi]) (fun e => hd _ hs i hi e.symm)⟩
      rw [hk b (by simp [blks]) (fun e => hb1 (by rw [e]; exact hs))]
      have := hx.1
      simp only [at', setv_blk] at this ⊢
      exact this
end Nod

theorem TreeAt.apart {w : World} {tb : Nat} {x : Nod} (h : TreeAt w tb (some x)) : tb ∉ x.blks := fun hm => by
  obtain ⟨cs, hc, _⟩ := (h.lies x rfl).all tb hm
  rw [h.head] at hc
  cases hc

theorem bytes_head {w w' : World} {tb : Nat} {p n : Value} (sp : Spares (fun i => i = tb) w w') (hp : ∀ i, p ≠ .int .u8 i) (hn : ∀ i, n ≠ .int .u8 i) (h : w.heap[tb]? = some (.cells #[p, n] 101 (0, 0))) : Bytes w w' :=
  ⟨sp.size, fun ad i hc => sp.cell hc fun e => by
    unfold World.cell? at hc
    rw [e, h] at hc
    simp only at hc
    split at hc
    · cases hc
    · match hoff : ad.off, hc with
      | 0, hc => simp at hc; exact hp i hc
      | 1, hc => simp at hc; exact hn i hc
      | k + 2, hc => simp at hc⟩

/-- A tree's block rewritten, a new block. -/
theorem head_world (w : World) (tb : Nat) (p n p' n' : Value) (o : Obj) (hp : ∀ i, p ≠ .int .u8 i) (hn : ∀ i, n ≠ .int .u8 i) (h : w.heap[tb]? = some (.cells #[p, n] 101 (0, 0))) :
    (((w.setCell ⟨tb, 0, none⟩ p').setCell ⟨tb, 1, none⟩ n').alloc o).heap[tb]? = some (.cells #[p', n'] 101 (0, 0)) ∧ (((w.setCell ⟨tb, 0, none⟩ p').setCell ⟨tb, 1, none⟩ n').alloc o).heap[w.heap.size]? = some o ∧
    Spares (fun b => b = tb) w (((w.setCell ⟨tb, 0, none⟩ p').setCell ⟨tb, 1, none⟩ n').alloc o) ∧ Bytes w (((w.setCell ⟨tb, 0, none⟩ p').setCell ⟨tb, 1, none⟩ n').alloc o) := by
  have h2 : ((w.setCell ⟨tb, 0, none⟩ p').setCell ⟨tb, 1, none⟩ n').heap[tb]? = some (.cells #[p', n'] 101 (0, 0)) := heap_setCell_same _ _ _ _ _ _ (heap_setCell_same _ _ _ _ _ _ h)
  have hz : ((w.setCell ⟨tb, 0, none⟩ p').setCell ⟨tb, 1, none⟩ n').heap.size = w.heap.size := by simp [World.setCell]
  have sp : Spares (fun b => b = tb) w (((w.setCell ⟨tb, 0, none⟩ p').setCell ⟨tb, 1, none⟩ n').alloc o) :=
    (spares_set2 w tb 0 1 p' n').andThen (T := fun _ => False) (Spares.of_new ((Below.refl _ _).alloc (Nat.le_refl _) _)) (fun i hi => hi.elim)
  refine ⟨(Below.heap_alloc _ _ _ (Array.getElem?_eq_some_iff.1 h2).1).trans h2, ?_, sp, ⟨sp.size, fun ad i hc => sp.cell hc fun e => ?_⟩⟩
  · have := World.alloc_heap_new ((w.setCell ⟨tb, 0, none⟩ p').setCell ⟨tb, 1, none⟩ n') o
    rwa [hz] at this
  · unfold World.cell? at hc
    rw [e, h] at hc
    simp only at hc
    split at hc
    · cases hc
    · rename_i hsp
      match hoff : ad.off, hc with
      | 0, hc => simp at hc; exact hp i hc
      | 1, hc => simp at hc; exact hn i hc
      | k + 2, hc => simp at hc

/-- What Put leaves. -/
def PutEnd (tb : Nat) (o : Option Nod) (key val : List UInt8) (w w' : World) : Prop :=
  ∃ y, TreeAt w' tb (some y) ∧ y.tri = Tri.put (triO o) (key, val) ∧ (∀ b ∈ y.blks, own tb o b ∨ w.heap.size ≤ b) ∧ Spares (own tb o) w w'

set_option maxHeartbeats 2000000 in
theorem put_long (tb : Nat) (kv vv : Value) (key val : List UInt8) (w : World) (hk : Says w kv key) (hv : Says w vv val) (hl : ¬ Tri.short (key, val)) :
    Calls Tryd.prog 64 #[.pointer (some ⟨tb, 0, none⟩), kv, vv] w fun e w' => e = .returned (.int .i64 2) ∧ w' = w := by
  have HL := isLong_any _ _ kv vv key val w hk hv
  rw [decide_eq_true (by unfold Tri.short at hl; simp at hl; omega)] at HL
  obtain ⟨a1, c1, rfl, _⟩ := id hk
  obtain ⟨a2, c2, rfl, _⟩ := id hv
  go_enter Tryd.func64, Tryd.ntmps64
  go_wp2_with (go_at_call 90; refine HL.mono ?_; rintro e w' ⟨rfl, rfl⟩)
  go_ret
  exact ⟨rfl, rfl⟩

set_option maxHeartbeats 4000000 in
theorem put_first (tb : Nat) (kv vv : Value) (key val : List UInt8) (w : World) (ht : TreeAt w tb none) (hk : Says w kv key) (hv : Says w vv val) (hs : Tri.short (key, val)) :
    Calls Tryd.prog 64 #[.pointer (some ⟨tb, 0, none⟩), kv, vv] w fun e w' => e = .returned (.int .i64 0) ∧ PutEnd tb none key val w w' := by
  have HL := isLong_any _ _ kv vv key val w hk hv
  rw [decide_eq_false (by unfold Tri.short at hs; simp at hs; omega)] at HL
  have HF := leaf_any tb none kv key w ht hk
  simp only [endO] at HF
  obtain ⟨a1, c1, rfl, _⟩ := id hk
  obtain ⟨a2, c2, rfl, _⟩ := id hv
  have htb : tb < w.heap.size := (Array.getElem?_eq_some_iff.1 ht.head).1
  have HH := hid ht.head
  have HK := hid hk
  have HV := hid hv
  clear ht hk hv
  go_enter Tryd.func64, Tryd.ntmps64
  go_wp2_with (first
    | (go_at_call 90; refine HL.mono ?_; clear HL; rintro e w' ⟨rfl, rfl⟩)
    | (go_at_call 65; refine HF.mono ?_; clear HF; rintro e w1 ⟨rfl, hb1⟩
       have HC := entry_any _ _ key val w1 (HK.out.new hb1) (HV.out.new hb1) (by have := hs.1; simp at this; omega) (by have := hs.2; simp at this; omega))
    | (go_at_call 70; refine HC.mono ?_; clear HC; rintro e w2 ⟨kv', vv', rfl, hkc, hvc, hkv, hb2⟩
       obtain ⟨a3, c3, rfl⟩ := hkc.form
       obtain ⟨a4, c4, rfl⟩ := hvc.form
       have hbw := hb1.trans (hb2.mono hb1.size)
       have hh2 := (hbw.block tb htb).trans HH.out
       have t0 : w2.cell? ⟨tb, 0, none⟩ = some (.pointer none) := by rw [cell_of_row _ _ _ _ _ _ hh2]; rfl
       have t1 : w2.cell? ⟨tb, 1, none⟩ = some (.int .i64 0) := by rw [cell_of_row _ _ _ _ _ _ hh2]; rfl
       have tf : ∀ j, w2.frozen? ⟨tb, j, none⟩ = false := fun j => by simp [World.frozen?, hh2]
       have tl : tb < w2.heap.size := (Array.getElem?_eq_some_iff.1 hh2).1
       have HH2 := hid hh2
       have HBW := hid hbw
       have HKC := hid hkc
       have HVC := hid hvc
       clear hkc hvc hkv hb2 hh2 hbw))
  have HW := hid (head_world w2 tb _ _ (.pointer (some ⟨w2.heap.size, 0, none⟩)) (.int .i64 1) (.cells #[.slice a3 key.length c3, .slice a4 val.length c4, .int .i64 0, .pointer none, .pointer none] 98) (by simp) (by simp) HH2.out)
  go_ret
  refine ⟨rfl, ?_⟩
  obtain ⟨h1, h2, h3, h4⟩ := HW.out
  refine ⟨.leaf w2.heap.size (.slice a3 key.length c3) (.slice a4 val.length c4) key val, ⟨h1, fun x e => ?_, fun x e => ?_, hs⟩, rfl, fun b hb => ?_, ?_⟩
  · cases e
    exact ⟨h2, HKC.out.says.bytes h4, HVC.out.says.bytes h4⟩
  · cases e
    simp [Nod.blks]
  · simp [Nod.blks] at hb
    subst hb
    exact .inr HBW.out.size
  · exact (Spares.of_new HBW.out).andThen h3 (fun i hi => .inl (.inl hi))

set_option maxHeartbeats 4000000 in
theorem put_set (tb : Nat) (x : Nod) (kv vv : Value) (key val : List UInt8) (w : World) (ht : TreeAt w tb (some x)) (hk : Says w kv key) (hv : Says w vv val) (hs : Tri.short (key, val)) (hn : (x.tri.near key).1 = key) :
    Calls Tryd.prog 64 #[.pointer (some ⟨tb, 0, none⟩), kv, vv] w fun e w' => e = .returned (.int .i64 0) ∧ PutEnd tb (some x) key val w w' := by
  have HL := isLong_any _ _ kv vv key val w hk hv
  rw [decide_eq_false (by unfold Tri.short at hs; simp at hs; omega)] at HL
  have HF := leaf_any tb (some x) kv key w ht hk
  obtain ⟨b, lk, lv, k, v, he, hne⟩ := Nod.end_leaf x key
  have hlx := Nod.way_lies (ht.lies x rfl) _ (Nod.end_mem x key)
  have hbx := Nod.end_blk x key
  rw [he] at hlx hbx
  simp only [endO, he, Nod.blk] at HF hbx
  rw [hne] at hn
  obtain rfl : k = key := hn
  obtain ⟨a1, c1, rfl, _⟩ := id hk
  obtain ⟨a2, c2, rfl, _⟩ := id hv
  obtain ⟨hblk, hsk, hsv⟩ := hlx
  obtain ⟨a5, c5, rfl, _⟩ := id hsk
  obtain ⟨a6, c6, rfl, _⟩ := id hsv
  have hbl : b < w.heap.size := (Array.getElem?_eq_some_iff.1 hblk).1
  have HT := hid ht
  have HK := hid hk
  have HV := hid hv
  have HSK := hid hsk
  have HBK := hid hblk
  have HE := hid he
  have HNE := hid hne
  have HBX := hid hbx
  clear ht hk hv hsk hsv hblk he hne hbx
  go_enter Tryd.func64, Tryd.ntmps64
  go_wp2_with (first
    | (go_at_call 90; refine HL.mono ?_; clear HL; rintro e w' ⟨rfl, rfl⟩)
    | (go_at_call 65; refine HF.mono ?_; clear HF; rintro e w1 ⟨rfl, hb1⟩
       have hh1 := (hb1.block b hbl).trans HBK.out
       have h0 : w1.cell? ⟨b, 0, none⟩ = some (.slice a5 k.length c5) := by rw [cell_of_row _ _ _ _ _ _ hh1]; rfl
       have HQ := equal_any _ _ (.slice a5 k.length c5) (.slice a1 k.length c1) k k w1 (HSK.out.new hb1) (HK.out.new hb1)
       rw [decide_eq_true rfl] at HQ
       have HC := copy_any (.slice a2 val.length c2) val w1 (HV.out.new hb1) (by have := hs.2; simp at this; omega)
       clear hh1)
    | (go_at_call 50; refine HQ.mono ?_; clear HQ; rintro e w2 ⟨rfl, rfl⟩)
    | (go_at_call 51; refine HC.mono ?_; clear HC; rintro e w3 ⟨v3, rfl, hvc, hb3⟩
       obtain ⟨a3, c3, rfl⟩ := hvc.form
       have hbw := hb1.trans (hb3.mono hb1.size)
       have hh3 := (hbw.block b hbl).trans HBK.out
       have t1 : w3.cell? ⟨b, 1, none⟩ = some (.slice a6 v.length c6) := by rw [cell_of_row _ _ _ _ _ _ hh3]; rfl
       have tf : ∀ j, w3.frozen? ⟨b, j, none⟩ = false := fun j => by simp [World.frozen?, hh3]
       have HH3 := hid hh3
       have HBW := hid hbw
       have HVC := hid hvc
       clear hvc hb3 hbw hh3))
  go_ret
  refine ⟨rfl, ?_⟩
  have hT3 := HT.out.new HBW.out
  have hsp := spares_set w3 ⟨b, 1, none⟩ (.slice a3 val.length c3)
  have hby := hT3.bytes (hsp.mono fun i hi => .inr ⟨x, rfl, by rw [hi]; exact HBX.out⟩)
  have hta := hT3.apart
  have hput : (x.setv k (.slice a3 val.length c3) val).tri = Tri.put (triO (some x)) (k, val) := by
    rw [Nod.setv_tri]
    simp only [triO, Option.map_some, Tri.put, HNE.out]
    rfl
  refine ⟨x.setv k (.slice a3 val.length c3) val, ⟨?_, fun y e => ?_, fun y e => ?_, ?_⟩, hput, fun i hi => ?_, ?_⟩
  · rw [Below.heap_setCell _ _ _ _ (fun e => hta (by rw [show tb = b from e]; exact HBX.out)), hT3.head]
    simp only [topOf, Nod.setv_blk, triO, Option.map_some, Tri.entsO, Nod.setv_tri, Tri.set_length]
  · cases e
    refine Nod.setv_lies (hT3.lies x rfl) (hT3.nodup x rfl) hby (HVC.out.says.bytes hby) (fun i hi hne => Below.heap_setCell _ _ _ _ (by rw [HE.out] at hne; exact hne)) (fun b' kv' u k' z e' => ?_)
    rw [HE.out] at e'
    cases e'
    exact heap_setCell_same _ _ _ _ _ _ HH3.out
  · cases e
    rw [Nod.setv_blks]
    exact hT3.nodup x rfl
  · show Tri.WF _
    rw [hput]
    exact (Tri.put_spec (triO (some x)) HT.out.wf (k, val) hs).1
  · rw [Nod.setv_blks] at hi
    exact .inl (.inr ⟨x, rfl, hi⟩)
  · exact (Spares.of_new HBW.out).andThen hsp (fun i hi => .inl (.inr ⟨x, rfl, by rw [hi]; exact HBX.out⟩))

set_option maxHeartbeats 4000000 in
theorem put_grow (tb : Nat) (x : Nod) (kv vv : Value) (key val : List UInt8) (w : World) (ht : TreeAt w tb (some x)) (hk : Says w kv key) (hv : Says w vv val) (hs : Tri.short (key, val)) (hn : (x.tri.near key).1 ≠ key) (hfew : x.tri.ents.length < 1000000000) :
    Calls Tryd.prog 64 #[.pointer (some ⟨tb, 0, none⟩), kv, vv] w fun e w' => e = .returned (.int .i64 0) ∧ PutEnd tb (some x) key val w w' := by
  have HL := isLong_any _ _ kv vv key val w hk hv
  rw [decide_eq_false (by unfold Tri.short at hs; simp at hs; omega)] at HL
  have HF := leaf_any tb (some x) kv key w ht hk
  obtain ⟨b, lk, lv, k, v, he, hne⟩ := Nod.end_leaf x key
  have hlx := Nod.way_lies (ht.lies x rfl) _ (Nod.end_mem x key)
  have hkl : k.length ≤ 120 := by have := (Tri.short_of x.tri ht.wf _ (Tri.near_mem x.tri key)).1; rw [hne] at this; exact this
  rw [he] at hlx
  simp only [endO, he, Nod.blk] at HF
  have HPUT : Hid (Tri.put (triO (some x)) (key, val) = x.tri.grow (key, val) (fu k key)) := hid (by
    simp only [triO, Option.map_some, Tri.put]
    rw [if_neg hn, hne])
  rw [hne] at hn
  simp only at hn
  have hful : fu k key < 1080 := by have h1 := fu_lt k key hn; have h2 := hs.1; simp only at h2; omega
  obtain ⟨a1, c1, rfl, _⟩ := id hk
  obtain ⟨a2, c2, rfl, _⟩ := id hv
  obtain ⟨hblk, hsk, hsv⟩ := hlx
  obtain ⟨a5, c5, rfl, _⟩ := id hsk
  have hbl : b < w.heap.size := (Array.getElem?_eq_some_iff.1 hblk).1
  have htb : tb < w.heap.size := (Array.getElem?_eq_some_iff.1 ht.head).1
  have HT := hid ht
  have HK := hid hk
  have HV := hid hv
  have HSK := hid hsk
  have HBK := hid hblk
  clear ht hk hv hsk hsv hblk he hne
  go_enter Tryd.func64, Tryd.ntmps64
  go_wp2_with (first
    | (go_at_call 90; refine HL.mono ?_; clear HL; rintro e w' ⟨rfl, rfl⟩)
    | (go_at_call 65; refine HF.mono ?_; clear HF; rintro e w1 ⟨rfl, hb1⟩
       have hh1 := (hb1.block b hbl).trans HBK.out
       have h0 : w1.cell? ⟨b, 0, none⟩ = some (.slice a5 k.length c5) := by rw [cell_of_row _ _ _ _ _ _ hh1]; rfl
       have HQ := equal_any _ _ (.slice a5 k.length c5) (.slice a1 key.length c1) k key w1 (HSK.out.new hb1) (HK.out.new hb1)
       rw [decide_eq_false hn] at HQ
       have HC := entry_any _ _ key val w1 (HK.out.new hb1) (HV.out.new hb1) (by have := hs.1; simp at this; omega) (by have := hs.2; simp at this; omega)
       clear hh1)
    | (go_at_call 50; refine HQ.mono ?_; clear HQ; rintro e w2 ⟨rfl, rfl⟩)
    | (go_at_call 70; refine HC.mono ?_; clear HC; rintro e w3 ⟨kv', vv', rfl, hkc, hvc, hkv, hb3⟩
       obtain ⟨a3, c3, rfl⟩ := hkc.form
       obtain ⟨a4, c4, rfl⟩ := hvc.form
       have hbw := hb1.trans (hb3.mono hb1.size)
       have hbn := (Below.refl w3.heap.size w3).alloc (Nat.le_refl _) (.cells #[.slice a3 key.length c3, .slice a4 val.length c4, .int .i64 0, .pointer none, .pointer none] 98)
       have hb4 := hbw.trans (hbn.mono hbw.size)
       have hh4 := (hb4.block b hbl).trans HBK.out
       have h04 : (w3.alloc (.cells #[.slice a3 key.length c3, .slice a4 val.length c4, .int .i64 0, .pointer none, .pointer none] 98)).cell? ⟨b, 0, none⟩ = some (.slice a5 k.length c5) := by rw [cell_of_row _ _ _ _ _ _ hh4]; rfl
       have HU := unlike_any _ _ (.slice a5 k.length c5) (.slice a1 key.length c1) k key _ (HSK.out.new hb4) (HK.out.new hb4) (by omega) (by have := hs.1; simp at this; omega)
       have ha : (Nod.leaf w3.heap.size (.slice a3 key.length c3) (.slice a4 val.length c4) key val).Lies (w3.alloc (.cells #[.slice a3 key.length c3, .slice a4 val.length c4, .int .i64 0, .pointer none, .pointer none] 98)) := ⟨World.alloc_heap_new _ _, (hkc.says).new hbn, (hvc.says).new hbn⟩
       have hT4 := HT.out.new hb4
       have HA := hid ha
       have HT4 := hid hT4
       have HB4 := hid hb4
       have HZ : Hid (w3.heap.size ∉ x.blks) := hid (fun hm => by have := (HT.out.lies x rfl).lt _ hm; have := hbw.size; omega)
       have HZ3 := hid hbw.size
       clear hkc hvc hkv hb3 hbw hh4 ha hT4 hb4 hbn h0)
    | (go_at_call 92; refine HU.mono ?_; clear HU; rintro e w5 ⟨rfl, nq, rfl⟩
       have HBR := branch_any tb w3.heap.size (fu k key) x _ _ key val _ (HT4.out.new (below_drewN _ _ nq)) (HA.out.new (below_drewN _ _ nq)) HZ.out hful)
    | (go_at_call 91; refine HBR.mono ?_; clear HBR; rintro e w6 ⟨⟨u6, rfl⟩, nb, hnb, hlies, hsp⟩
       have hne : tb ≠ (x.spot key (fu k key)).blk := fun e => HT4.out.apart (by rw [e]; exact Nod.spot_mem x key (fu k key))
       have hh6 : w6.heap[tb]? = _ := (hsp.block tb (Array.getElem?_eq_some_iff.1 HT4.out.head).1 hne).trans HT4.out.head
       have t1 : w6.cell? ⟨tb, 1, none⟩ = some (.int .i64 (x.tri.ents.length : Nat)) := by rw [cell_of_row _ _ _ _ _ _ hh6]; rfl
       have tf : ∀ j, w6.frozen? ⟨tb, j, none⟩ = false := fun j => by simp [World.frozen?, hh6]
       have HH6 := hid hh6
       have HSP := hid hsp
       have HLI := hid hlies
       have HNB := hid hnb
       clear hnb hlies hsp hh6 hne))
  have hsz4 : ((w3.alloc (.cells #[.slice a3 key.length c3, .slice a4 val.length c4, .int .i64 0, .pointer none, .pointer none] 98)).drewN nq).heap.size = w3.heap.size + 1 := World.size_alloc _ _
  have hnb := HNB.out
  rw [hsz4] at hnb
  have hz3 := HZ3.out
  have hlt := fun i hi => (HT.out.lies x rfl).lt i hi
  go_ret
  refine ⟨rfl, ?_⟩
  have hsp : Spares (fun i => i = tb) w6 (w6.setCell ⟨tb, 1, none⟩ (.int .i64 ((x.tri.ents.length : Int) + 1))) := spares_set w6 ⟨tb, 1, none⟩ _
  have hby := bytes_head hsp (by simp) (by simp) HH6.out
  have hmem : ∀ i, i ∈ (x.graft key (fu k key) nb (.leaf w3.heap.size (.slice a3 key.length c3) (.slice a4 val.length c4) key val)).blks → i ∈ x.blks ∨ i = nb ∨ i = w3.heap.size := fun i hi => by
    have := (Nod.graft_blks _ _ _ _ _ i).1 hi
    simpa [Nod.blks] using this
  have htri : (x.graft key (fu k key) nb (.leaf w3.heap.size (.slice a3 key.length c3) (.slice a4 val.length c4) key val)).tri = Tri.put (triO (some x)) (key, val) := by rw [Nod.graft_tri, HPUT.out]
  refine ⟨_, ⟨?_, fun y e => ?_, fun y e => ?_, ?_⟩, htri, fun i hi => ?_, ?_⟩
  · rw [heap_setCell_same _ _ _ _ _ _ HH6.out]
    simp only [topOf, Nod.graft_blk, triO, Option.map_some, Tri.entsO, Nod.graft_tri, Tri.grow_length]
    rfl
  · cases e
    refine HLI.out.keeps hby fun i hi => hsp.block i (HLI.out.lt i hi) (fun e => ?_)
    rcases hmem i hi with h | h | h
    · exact HT.out.apart (by rw [← e]; exact h)
    · omega
    · omega
  · cases e
    exact Nod.graft_nodup _ _ _ _ _ (HT.out.nodup x rfl) (by simp [Nod.blks]) (fun hm => by have := hlt _ hm; omega) (by simp [Nod.blks]; omega) (fun i hi => by simp [Nod.blks]; have := hlt i hi; omega)
  · show Tri.WF _
    rw [htri]
    exact (Tri.put_spec (triO (some x)) HT.out.wf (key, val) hs).1
  · rcases hmem i hi with h | h | h
    · exact .inl (.inr ⟨x, rfl, h⟩)
    · exact .inr (by omega)
    · exact .inr (by omega)
  · refine (((Spares.of_new HB4.out).andThen (T := fun _ => False) (Spares.of_new (below_drewN _ _ nq)) (fun i hi => hi.elim)).andThen HSP.out (fun i hi => .inl (.inr ⟨x, rfl, ?_⟩))).andThen hsp (fun i hi => .inl (.inl hi))
    rw [hi]
    exact Nod.spot_mem x key (fu k key)

theorem put_any (tb : Nat) (o : Option Nod) (kv vv : Value) (key val : List UInt8) (w : World) (ht : TreeAt w tb o) (hk : Says w kv key) (hv : Says w vv val) (hs : Tri.short (key, val)) (hfew : (Tri.entsO (triO o)).length < 1000000000) :
    Calls Tryd.prog 64 #[.pointer (some ⟨tb, 0, none⟩), kv, vv] w fun e w' => e = .returned (.int .i64 0) ∧ PutEnd tb o key val w w' := by
  cases o with
  | none => exact put_first tb kv vv key val w ht hk hv hs
  | some x =>
    by_cases hn : (x.tri.near key).1 = key
    · exact put_set tb x kv vv key val w ht hk hv hs hn
    · exact put_grow tb x kv vv key val w ht hk hv hs hn hfew
end Go.Proofs.YtmafaioohiaenaaDoor
