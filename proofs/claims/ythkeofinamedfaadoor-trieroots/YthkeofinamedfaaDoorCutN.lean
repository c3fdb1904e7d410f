/- A tree of nodes without the leaf to which a key leads: what it is, and where it lies. -/
import Derived.Test.YthkeofinamedfaaDoorGraft
namespace Go.Proofs.YthkeofinamedfaaDoor
open Go.RowKit
set_option linter.unusedVariables false
set_option maxRecDepth 20000

namespace Nod
theorem move_tri (nb : Nat) (x : Nod) : (x.move nb).tri = x.tri := by cases x <;> rfl

/-- The other side takes the place of the last fork. -/
def cutN : Nod → List UInt8 → Option Nod
  | leaf _ _ _ _ _, _ => none
  | fork b p l r, key => if bit key p then (match r.cutN key with | none => some (l.move b) | some r' => some (fork b p l r')) else (match l.cutN key with | none => some (r.move b) | some l' => some (fork b p l' r))

/-- The last fork of a way. -/
def above : Nod → List UInt8 → Option Nod
  | leaf _ _ _ _ _, _ => none
  | fork b p l r, key => if bit key p then (match r.above key with | none => some (fork b p l r) | some y => some y) else (match l.above key with | none => some (fork b p l r) | some y => some y)

theorem cutN_tri : ∀ (x : Nod) (key : List UInt8), (x.cutN key).map tri = x.tri.cut key
  | leaf b kv vv k v, key => rfl
  | fork b p l r, key => by
    have hl := cutN_tri l key
    have hr := cutN_tri r key
    simp only [cutN, tri, Tri.cut]
    cases bit key p with
    | true =>
      simp only [if_true]
      cases h : r.cutN key <;> rw [h] at hr <;> simp only [Option.map_none, Option.map_some] at hr <;> rw [← hr] <;> simp [tri, move_tri]
    | false =>
      simp only [Bool.false_eq_true, if_false]
      cases h : l.cutN key <;> rw [h] at hl <;> simp only [Option.map_none, Option.map_some] at hl <;> rw [← hl] <;> simp [tri, move_tri]

theorem above_none : ∀ {x : Nod} {key : List UInt8}, x.above key = none → x.cutN key = none ∧ ∃ b kv vv k v, x = leaf b kv vv k v
  | leaf b kv vv k v, key, h => ⟨rfl, b, kv, vv, k, v, rfl⟩
  | fork b p l r, key, h => by
    simp only [above] at h
    split at h <;> split at h <;> cases h

theorem way_above : ∀ (x : Nod) (key : List UInt8), (x.way key).dropLast.getLast? = x.above key
  | leaf b kv vv k v, key => rfl
  | fork b p l r, key => by
    have hl := way_above l key
    have hr := way_above r key
    simp only [way, above]
    split
    · rw [List.dropLast_cons_of_ne_nil (way_ne r key), List.getLast?_cons, hr]
      cases r.above key <;> rfl
    · rw [List.dropLast_cons_of_ne_nil (way_ne l key), List.getLast?_cons, hl]
      cases l.above key <;> rfl

theorem above_way {x y : Nod} {key : List UInt8} (h : x.above key = some y) : y ∈ x.way key := by
  rw [← way_above] at h
  exact List.dropLast_subset _ (List.mem_of_getLast? h)

theorem above_fork : ∀ {x y : Nod} {key : List UInt8}, x.above key = some y → ∃ b p l r, y = fork b p l r
  | leaf b kv vv k v, y, key, h => by cases h
  | fork b p l r, y, key, h => by
    simp only [above] at h
    split at h
    · split at h
      · cases h; exact ⟨b, p, l, r, rfl⟩
      · rename_i y' hy; cases h; exact above_fork hy
    · split at h
      · cases h; exact ⟨b, p, l, r, rfl⟩
      · rename_i y' hy; cases h; exact above_fork hy

theorem move_lies2 {x : Nod} {w w' : World} {nb : Nat} (h : x.Lies w) (hb : Bytes w w') (hn : w'.heap[nb]? = some (.cells x.cells 84 (0, 0))) (hk : ∀ i ∈ x.blks, i ≠ x.blk → w'.heap[i]? = w.heap[i]?) (hd : x.blks.Nodup) : (x.move nb).Lies w' := by
  cases x with
  | leaf b kv vv k v => exact ⟨hn, h.2.1.bytes hb, h.2.2.bytes hb⟩
  | fork b p l r =>
    simp only [blks, List.nodup_cons, List.mem_append, not_or] at hd
    exact ⟨hn, h.2.1.keeps hb fun i hi => hk i (by simp [blks, hi]) (fun e => hd.1.1 (by rw [← show i = b from e]; exact hi)), h.2.2.keeps hb fun i hi => hk i (by simp [blks, hi]) (fun e => hd.1.2 (by rw [← show i = b from e]; exact hi))⟩

theorem move_nodup {x : Nod} {nb : Nat} (hd : x.blks.Nodup) (hn : nb ∉ x.blks) : (x.move nb).blks.Nodup := by
  cases x with
  | leaf b kv vv k v => simp [move, blks]
  | fork b p l r =>
    simp only [blks, List.nodup_cons, List.mem_append, List.mem_cons, not_or] at hd hn ⊢
    simp only [move, blks, List.nodup_cons, List.mem_append, not_or]
    exact ⟨hn.2, hd.2⟩

theorem move_sub {x : Nod} {nb i : Nat} (h : i ∈ (x.move nb).blks) : i = nb ∨ i ∈ x.blks := by
  cases x with
  | leaf b kv vv k v => simp [move, blks] at h; exact .inl h
  | fork b p l r =>
    simp only [move, blks, List.mem_cons, List.mem_append] at h ⊢
    rcases h with h | h
    · exact .inl h
    · exact .inr (.inr h)

/-- The side on which a key does not lead. -/
def other' (key : List UInt8) : Nod → Nod
  | leaf b kv vv k v => leaf b kv vv k v
  | fork _ p l r => if bit key p then l else r

theorem cutN_lies : ∀ {x y : Nod} {w w' : World} {key : List UInt8}, x.Lies w → x.blks.Nodup → Bytes w w' → x.above key = some y →
    (∀ b ∈ x.blks, b ≠ y.blk → w'.heap[b]? = w.heap[b]?) → w'.heap[y.blk]? = some (.cells (y.other' key).cells 84 (0, 0)) →
    ∃ z, x.cutN key = some z ∧ z.Lies w' ∧ z.blk = x.blk ∧ z.blks.Nodup ∧ ∀ i ∈ z.blks, i ∈ x.blks
  | leaf b kv vv k v, y, w, w', key, hx, hd, hb, ha, hk, hy => by cases ha
  | fork b p l r, y, w, w', key, hx, hd, hb, ha, hk, hy => by
    simp only [blks, List.nodup_cons, List.mem_append, not_or, List.nodup_append] at hd
    obtain ⟨⟨hb1, hb2⟩, hdl, hdr, hdd⟩ := hd
    cases hbit : bit key p with
    | true =>
      simp only [above, hbit, if_true] at ha
      simp only [cutN, hbit, if_true]
      cases hra : r.above key with
      | none =>
        rw [hra] at ha
        cases ha
        rw [(above_none hra).1]
        simp only [other', hbit, if_true] at hy
        refine ⟨_, rfl, move_lies2 hx.2.1 hb hy (fun i hi _ => hk i (by simp [blks, hi]) (fun e => hb1 (by rw [← show i = b from e]; exact hi))) hdl, move_blk _ _, move_nodup hdl hb1, fun i hi => ?_⟩
        rcases move_sub hi with h | h
        · simp [blks, h]
        · simp [blks, h]
      | some y' =>
        rw [hra] at ha
        cases ha
        have hym : y.blk ∈ r.blks := way_blks y (above_way hra) _ y.blk_mem
        obtain ⟨z, h1, h2, h3, h4, h5⟩ := cutN_lies hx.2.2 hdr hb hra (fun i hi => hk i (by simp [blks, hi])) hy
        rw [h1]
        refine ⟨_, rfl, ⟨?_, hx.2.1.keeps hb fun i hi => hk i (by simp [blks, hi]) (fun e => hdd i hi _ hym e), h2⟩, rfl, ?_, fun i hi => ?_⟩
        · rw [hk b (by simp [blks]) (fun e => hb2 (by rw [e]; exact hym))]
          have := hx.1
          simp only [at', h3] at this ⊢
          exact this
        · simp only [blks, List.nodup_cons, List.mem_append, not_or, List.nodup_append]
          exact ⟨⟨hb1, fun h => hb2 (h5 _ h)⟩, hdl, h4, fun i hi j hj => hdd i hi j (h5 j hj)⟩
        · simp only [blks, List.mem_cons, List.mem_append] at hi ⊢
          rcases hi with h | h | h
          · exact .inl h
          · exact .inr (.inl h)
          · exact .inr (.inr (h5 i h))
    | false =>
      simp only [above, hbit, Bool.false_eq_true, if_false] at ha
      simp only [cutN, hbit, Bool.false_eq_true, if_false]
      cases hla : l.above key with
      | none =>
        rw [hla] at ha
        cases ha
        rw [(above_none hla).1]
        simp only [other', hbit, Bool.false_eq_true, if_false] at hy
        refine ⟨_, rfl, move_lies2 hx.2.2 hb hy (fun i hi _ => hk i (by simp [blks, hi]) (fun e => hb2 (by rw [← show i = b from e]; exact hi))) hdr, move_blk _ _, move_nodup hdr hb2, fun i hi => ?_⟩
        rcases move_sub hi with h | h
        · simp [blks, h]
        · simp [blks, h]
      | some y' =>
        rw [hla] at ha
        cases ha
        have hym : y.blk ∈ l.blks := way_blks y (above_way hla) _ y.blk_mem
        obtain ⟨z, h1, h2, h3, h4, h5⟩ := cutN_lies hx.2.1 hdl hb hla (fun i hi => hk i (by simp [blks, hi])) hy
        rw [h1]
        refine ⟨_, rfl, ⟨?_, h2, hx.2.2.keeps hb fun i hi => hk i (by simp [blks, hi]) (fun e => hdd _ hym i hi e.symm)⟩, rfl, ?_, fun i hi => ?_⟩
        · rw [hk b (by simp [blks]) (fun e => hb1 (by rw [e]; exact hym))]
          have := hx.1
          simp only [at', h3] at this ⊢
          exact this
        · simp only [blks, List.nodup_cons, List.mem_append, not_or, List.nodup_append]
          exact ⟨⟨fun h => hb1 (h5 _ h), hb2⟩, h4, hdr, fun i hi j hj => hdd i (h5 i hi) j hj⟩
        · simp only [blks, List.mem_cons, List.mem_append] at hi ⊢
          rcases hi with h | h | h
          · exact .inl h
          · exact .inr (.inl (h5 i h))
          · exact .inr (.inr h)

theorem cutN_blk : ∀ {x z : Nod} {key : List UInt8}, x.cutN key = some z → z.blk = x.blk
  | leaf b kv vv k v, z, key, h => by cases h
  | fork b p l r, z, key, h => by
    simp only [cutN] at h
    split at h <;> split at h <;> cases h <;> first | exact move_blk _ _ | rfl
end Nod

theorem Nod.cut_top {x y : Nod} {key : List UInt8} (h : x.above key = some y) : topOf (x.cutN key) = topOf (some x) := by
  cases hc : x.cutN key with
  | none =>
    cases x with
    | leaf b kv vv k v => cases h
    | fork b p l r =>
      simp only [Nod.cutN] at hc
      split at hc <;> split at hc <;> cases hc
  | some z => simp only [topOf, Nod.cutN_blk hc]
end Go.Proofs.YthkeofinamedfaaDoor
