/- A tree of nodes with one leaf more: what it is, and where it lies. -/
import Derived.Test.YthkeofinamedfaaDoorGetF
namespace Go.Proofs.YthkeofinamedfaaDoor
open Go.RowKit
set_option linter.unusedVariables false
set_option maxRecDepth 20000

namespace Nod
/-- Does the way go on behind this node? -/
def passes (place : Nat) : Nod → Bool
  | leaf _ _ _ _ _ => false
  | fork _ p _ _ => decide (p ≤ place)

/-- The node over which the new fork comes. -/
def spot : Nod → List UInt8 → Nat → Nod
  | leaf b kv vv k v, _, _ => leaf b kv vv k v
  | fork b p l r, key, place => if place < p then fork b p l r else if bit key p then r.spot key place else l.spot key place

/-- A new fork in a node's block, that node in a new one. -/
def mk (b : Nat) (old added : Nod) (key : List UInt8) (place : Nat) : Nod := if bit key place then fork b place old added else fork b place added old

/-- The same node in another block. -/
def move (nb : Nat) : Nod → Nod
  | leaf _ kv vv k v => leaf nb kv vv k v
  | fork _ p l r => fork nb p l r

def graft : Nod → List UInt8 → Nat → Nat → Nod → Nod
  | leaf b kv vv k v, key, place, nb, added => mk b (leaf nb kv vv k v) added key place
  | fork b p l r, key, place, nb, added => if place < p then mk b (fork nb p l r) added key place else if bit key p then fork b p l (r.graft key place nb added) else fork b p (l.graft key place nb added) r

theorem mk_tri (b : Nat) (old : Nod) (ba : Nat) (kv vv : Value) (key v : List UInt8) (place : Nat) : (mk b old (leaf ba kv vv key v) key place).tri = Tri.over old.tri (key, v) place := by
  unfold mk Tri.over
  split <;> rfl

theorem graft_tri : ∀ (x : Nod) (key : List UInt8) (place nb ba : Nat) (kv vv : Value) (v : List UInt8), (x.graft key place nb (leaf ba kv vv key v)).tri = x.tri.grow (key, v) place
  | leaf b _ _ _ _, key, place, nb, ba, kv, vv, v => by simp only [graft, tri, Tri.grow]; exact mk_tri _ _ _ _ _ _ _ _
  | fork b p l r, key, place, nb, ba, kv, vv, v => by
    simp only [graft, tri, Tri.grow]
    split
    · exact mk_tri _ _ _ _ _ _ _ _
    · split
      · simp only [tri, graft_tri r]
      · simp only [tri, graft_tri l]

theorem mk_blk (b : Nat) (old added : Nod) (key : List UInt8) (place : Nat) : (mk b old added key place).blk = b := by unfold mk; split <;> rfl

theorem graft_blk : ∀ (x : Nod) (key : List UInt8) (place nb : Nat) (added : Nod), (x.graft key place nb added).blk = x.blk
  | leaf b _ _ _ _, key, place, nb, added => mk_blk _ _ _ _ _
  | fork b p l r, key, place, nb, added => by
    simp only [graft]
    split
    · exact mk_blk _ _ _ _ _
    · split <;> rfl

theorem move_blk (nb : Nat) (x : Nod) : (x.move nb).blk = nb := by cases x <;> rfl
theorem move_cells (nb : Nat) (x : Nod) : (x.move nb).cells = x.cells := by cases x <;> rfl

theorem mk_blks (b : Nat) (old added : Nod) (key : List UInt8) (place i : Nat) : i ∈ (mk b old added key place).blks ↔ i = b ∨ i ∈ old.blks ∨ i ∈ added.blks := by
  unfold mk
  split <;> simp [blks, or_comm]

theorem graft_blks : ∀ (x : Nod) (key : List UInt8) (place nb : Nat) (added : Nod) (i : Nat), i ∈ (x.graft key place nb added).blks ↔ i ∈ x.blks ∨ i = nb ∨ i ∈ added.blks
  | leaf b _ _ _ _, key, place, nb, added, i => by simp [graft, mk_blks, blks]
  | fork b p l r, key, place, nb, added, i => by
    simp only [graft]
    split
    · rw [mk_blks]
      simp only [blks, List.mem_cons, List.mem_append]
      constructor
      · rintro (h | (h | h) | h)
        · exact .inl (.inl h)
        · exact .inr (.inl h)
        · exact .inl (.inr h)
        · exact .inr (.inr h)
      · rintro ((h | h) | h | h)
        · exact .inl h
        · exact .inr (.inl (.inr h))
        · exact .inr (.inl (.inl h))
        · exact .inr (.inr h)
    · split
      · simp only [blks, List.mem_cons, List.mem_append, graft_blks r]
        constructor
        · rintro (h | h | h | h | h)
          · exact .inl (.inl h)
          · exact .inl (.inr (.inl h))
          · exact .inl (.inr (.inr h))
          · exact .inr (.inl h)
          · exact .inr (.inr h)
        · rintro ((h | h | h) | h | h)
          · exact .inl h
          · exact .inr (.inl h)
          · exact .inr (.inr (.inl h))
          · exact .inr (.inr (.inr (.inl h)))
          · exact .inr (.inr (.inr (.inr h)))
      · simp only [blks, List.mem_cons, List.mem_append, graft_blks l]
        constructor
        · rintro (h | (h | h | h) | h)
          · exact .inl (.inl h)
          · exact .inl (.inr (.inl h))
          · exact .inr (.inl h)
          · exact .inr (.inr h)
          · exact .inl (.inr (.inr h))
        · rintro ((h | h | h) | h | h)
          · exact .inl h
          · exact .inr (.inl (.inl h))
          · exact .inr (.inr h)
          · exact .inr (.inl (.inr (.inl h)))
          · exact .inr (.inl (.inr (.inr h)))

theorem mk_nodup (b : Nat) (old added : Nod) (key : List UInt8) (place : Nat) (h1 : old.blks.Nodup) (h2 : added.blks.Nodup) (h3 : b ∉ old.blks) (h4 : b ∉ added.blks) (h5 : ∀ i ∈ old.blks, i ∉ added.blks) : (mk b old added key place).blks.Nodup := by
  unfold mk
  split
  · simp only [blks, List.nodup_cons, List.mem_append, not_or, List.nodup_append]
    exact ⟨⟨h3, h4⟩, h1, h2, fun a ha c hc e => h5 a ha (by rw [e]; exact hc)⟩
  · simp only [blks, List.nodup_cons, List.mem_append, not_or, List.nodup_append]
    exact ⟨⟨h4, h3⟩, h2, h1, fun a ha c hc e => h5 c hc (by rw [← e]; exact ha)⟩

theorem graft_nodup : ∀ (x : Nod) (key : List UInt8) (place nb : Nat) (added : Nod), x.blks.Nodup → added.blks.Nodup → nb ∉ x.blks → nb ∉ added.blks → (∀ i ∈ x.blks, i ∉ added.blks) → (x.graft key place nb added).blks.Nodup
  | leaf b _ _ _ _, key, place, nb, added, h1, h2, h3, h4, h5 => by
    simp only [blks, List.mem_singleton] at h3
    refine mk_nodup _ _ _ _ _ (by simp [blks]) h2 (by simp [blks]; omega) (h5 b (by simp [blks])) (fun i hi => by simp [blks] at hi; subst hi; exact h4)
  | fork b p l r, key, place, nb, added, h1, h2, h3, h4, h5 => by
    have h1' := h1
    simp only [blks, List.nodup_cons, List.mem_append, not_or, List.nodup_append] at h1
    obtain ⟨⟨hb1, hb2⟩, hl, hr, hd⟩ := h1
    simp only [blks, List.mem_cons, List.mem_append, not_or] at h3
    obtain ⟨n1, n2, n3⟩ := h3
    simp only [graft]
    split
    · refine mk_nodup _ _ _ _ _ ?_ h2 ?_ (h5 b (by simp [blks])) (fun i hi => ?_)
      · simp only [blks, List.nodup_cons, List.mem_append, not_or, List.nodup_append]
        exact ⟨⟨n2, n3⟩, hl, hr, hd⟩
      · simp only [blks, List.mem_cons, List.mem_append, not_or]
        exact ⟨fun e => n1 e.symm, hb1, hb2⟩
      · simp only [blks, List.mem_cons, List.mem_append] at hi
        rcases hi with rfl | hi
        · exact h4
        · exact h5 i (by simp only [blks, List.mem_cons, List.mem_append]; exact .inr hi)
    · have k5 : ∀ i ∈ l.blks, i ∉ added.blks := fun i hi => h5 i (by simp [blks, hi])
      have k6 : ∀ i ∈ r.blks, i ∉ added.blks := fun i hi => h5 i (by simp [blks, hi])
      have k7 := h5 b (by simp [blks])
      split
      · simp only [blks, List.nodup_cons, List.mem_append, not_or, List.nodup_append, graft_blks]
        refine ⟨⟨hb1, hb2, fun e => n1 e.symm, k7⟩, hl, graft_nodup r key place nb added hr h2 n3 h4 k6, fun a ha c hc e => ?_⟩
        subst e
        rcases hc with hc | hc | hc
        · exact hd a ha a hc rfl
        · exact n2 (by rw [← hc]; exact ha)
        · exact k5 a ha hc
      · simp only [blks, List.nodup_cons, List.mem_append, not_or, List.nodup_append, graft_blks]
        refine ⟨⟨⟨hb1, fun e => n1 e.symm, k7⟩, hb2⟩, graft_nodup l key place nb added hl h2 n2 h4 k5, hr, fun a ha c hc e => ?_⟩
        subst e
        rcases ha with ha | ha | ha
        · exact hd a ha a hc rfl
        · exact n3 (by rw [← ha]; exact hc)
        · exact k6 a hc ha

theorem spot_mem : ∀ (x : Nod) (key : List UInt8) (place : Nat), (x.spot key place).blk ∈ x.blks
  | leaf b _ _ _ _, key, place => by simp [spot, blk, blks]
  | fork b p l r, key, place => by
    simp only [spot]
    split
    · simp [blk, blks]
    · split
      · simp only [blks, List.mem_cons, List.mem_append]; exact .inr (.inr (spot_mem r key place))
      · simp only [blks, List.mem_cons, List.mem_append]; exact .inr (.inl (spot_mem l key place))

/-- The way stops at the spot. -/
theorem spot_of : ∀ (x : Nod) (key : List UInt8) (place : Nat) (ys : List Nod) (z : Nod), ys ++ [z] <+: x.way key → (∀ y ∈ ys, y.passes place = true) → z.passes place = false → z = x.spot key place
  | leaf b kv vv k v, key, place, ys, z, hp, hy, hz => by
    simp only [way] at hp
    have := hp.length_le
    simp at this
    subst this
    have := hp.eq_of_length (by simp)
    simpa [spot] using this
  | fork b p l r, key, place, ys, z, hp, hy, hz => by
    simp only [way] at hp
    cases ys with
    | nil =>
      obtain ⟨t, ht⟩ := hp
      simp only [List.nil_append, List.cons_append, List.cons.injEq] at ht
      obtain ⟨rfl, _⟩ := ht
      simp only [passes, decide_eq_false_iff_not, Nat.not_le] at hz
      simp [spot, hz]
    | cons y ys =>
      obtain ⟨t, ht⟩ := hp
      simp only [List.cons_append, List.cons.injEq] at ht
      obtain ⟨rfl, ht⟩ := ht
      have h1 := hy _ (List.mem_cons_self)
      simp only [passes, decide_eq_true_eq] at h1
      simp only [spot]
      rw [if_neg (by omega)]
      split
      · rename_i hb
        rw [if_pos hb] at ht
        exact spot_of r key place ys z ⟨t, ht⟩ (fun q hq => hy q (List.mem_cons_of_mem _ hq)) hz
      · rename_i hb
        rw [if_neg hb] at ht
        exact spot_of l key place ys z ⟨t, ht⟩ (fun q hq => hy q (List.mem_cons_of_mem _ hq)) hz

theorem mk_lies {w : World} {b place : Nat} {old added : Nod} {key : List UInt8} (hb : w.heap[b]? = some (.cells (mk b old added key place).cells 84 (0, 0))) (h1 : old.Lies w) (h2 : added.Lies w) : (mk b old added key place).Lies w := by
  unfold mk at *
  split at hb
  · rename_i h; rw [if_pos h]; exact ⟨hb, h1, h2⟩
  · rename_i h; rw [if_neg h]; exact ⟨hb, h2, h1⟩

theorem move_lies {w : World} {nb : Nat} {x : Nod} (hx : x.Lies w) (hb : w.heap[nb]? = some (.cells x.cells 84 (0, 0))) : (x.move nb).Lies w := by
  cases x with
  | leaf b kv vv k v => exact ⟨hb, hx.2.1, hx.2.2⟩
  | fork b p l r => exact ⟨hb, hx.2.1, hx.2.2⟩

/-- WHERE THE GROWN TREE LIES. -/
theorem graft_lies : ∀ {x : Nod} {w w' : World} {key : List UInt8} {place nb : Nat} {added : Nod}, x.Lies w → x.blks.Nodup → added.Lies w' → Bytes w w' →
    (∀ b ∈ x.blks, b ≠ (x.spot key place).blk → w'.heap[b]? = w.heap[b]?) →
    w'.heap[(x.spot key place).blk]? = some (.cells (mk (x.spot key place).blk ((x.spot key place).move nb) added key place).cells 84 (0, 0)) →
    w'.heap[nb]? = some (.cells (x.spot key place).cells 84 (0, 0)) → (x.graft key place nb added).Lies w'
  | leaf b kv vv k v, w, w', key, place, nb, added, hx, hn, ha, hb, hk, h1, h2 => mk_lies h1 ⟨h2, hx.2.1.bytes hb, hx.2.2.bytes hb⟩ ha
  | fork b p l r, w, w', key, place, nb, added, hx, hn, ha, hb, hk, h1, h2 => by
    have hn' := hn
    simp only [blks, List.nodup_cons, List.mem_append, not_or, List.nodup_append] at hn
    obtain ⟨⟨hb1, hb2⟩, hl, hr, hd⟩ := hn
    simp only [graft]
    by_cases hlt : place < p
    · simp only [spot, if_pos hlt] at h1 h2 hk ⊢
      have keep : ∀ y : Nod, y.Lies w → (∀ i ∈ y.blks, i ∈ l.blks ++ r.blks) → y.Lies w' := fun y hy hs => hy.keeps hb fun i hi => hk i (by simp only [blks, List.mem_cons]; exact .inr (hs i hi)) (fun e => by
        have := hs i hi
        rw [e] at this
        rcases List.mem_append.1 this with h | h
        · exact hb1 h
        · exact hb2 h)
      exact mk_lies h1 ⟨h2, keep l hx.2.1 (fun i hi => List.mem_append.2 (.inl hi)), keep r hx.2.2 (fun i hi => List.mem_append.2 (.inr hi))⟩ ha
    · simp only [spot, if_neg hlt] at h1 h2 hk ⊢
      cases hbit : bit key p with
      | true =>
        simp only [hbit, if_true] at h1 h2 hk ⊢
        have hs := spot_mem r key place
        refine ⟨?_, hx.2.1.keeps hb fun i hi => hk i (by simp [blks, hi]) (fun e => hd i hi _ hs e), graft_lies hx.2.2 hr ha hb (fun i hi => hk i (by simp [blks, hi])) h1 h2⟩
        rw [hk b (by simp [blks]) (fun e => hb2 (by rw [e]; exact hs))]
        have := hx.1
        simp only [at', graft_blk] at this ⊢
        exact this
      | false =>
        simp only [hbit, Bool.false_eq_true, if_false] at h1 h2 hk ⊢
        have hs := spot_mem l key place
        refine ⟨?_, graft_lies hx.2.1 hl ha hb (fun i hi => hk i (by simp [blks, hi])) h1 h2, hx.2.2.keeps hb fun i hi => hk i (by simp [blks, hi]) (fun e => hd _ hs i hi e.symm)⟩
        rw [hk b (by simp [blks]) (fun e => hb1 (by rw [e]; exact hs))]
        have := hx.1
        simp only [at', graft_blk] at this ⊢
        exact this
end Nod
end Go.Proofs.YthkeofinamedfaaDoor
