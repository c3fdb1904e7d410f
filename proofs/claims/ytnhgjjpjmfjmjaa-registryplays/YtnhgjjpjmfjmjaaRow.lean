/- Contract of plain.Row. -/
import Derived.Test.YtnhgjjpjmfjmjaaFns
namespace Go.Proofs.Ytnhgjjpjmfjmjaa
open Go.RowKit
set_option linter.unusedVariables false

/-- WHAT A SLICE OF SLICES OF BYTES SHOWS. -/
def Lists (B : Nat) (w : World) (v : Value) (rows : List (List UInt8)) : Prop :=
  ∃ (a : Option Addr) (c : Nat) (vs : List Value), v = .slice a rows.length c ∧ rows.length ≤ c ∧ c ≤ maxLen ∧ vs.length = rows.length ∧
    (rows ≠ [] → ∃ b off, a = some ⟨b, off, none⟩ ∧ b < B ∧ ∀ (j : Nat) (u : Value), vs[j]? = some u → w.cell? ⟨b, off + j, none⟩ = some u) ∧
    ∀ (j : Nat) (u : Value) (r : List UInt8), vs[j]? = some u → rows[j]? = some r → Shows B w u r

theorem Lists.below {B : Nat} {w w' : World} {v : Value} {rows : List (List UInt8)} (h : Lists B w v rows) (hb : Below B w w') : Lists B w' v rows := by
  obtain ⟨a, c, vs, hv, h1, h2, h3, h4, h5⟩ := h
  refine ⟨a, c, vs, hv, h1, h2, h3, fun hne => ?_, fun j u r hu hr => (h5 j u r hu hr).below hb⟩
  obtain ⟨b, off, ha, hlt, hc⟩ := h4 hne
  exact ⟨b, off, ha, hlt, fun j u hu => by rw [hb.cell (p := ⟨b, off + j, none⟩) hlt]; exact hc j u hu⟩

/-- One element, as a walk reads it. -/
theorem Lists.at {B : Nat} {w : World} {a : Option Addr} {l c : Nat} {rows : List (List UInt8)} (h : Lists B w (.slice a l c) rows) (k : Nat) (hk : k < rows.length) :
    ∃ b off ak ck, a = some ⟨b, off, none⟩ ∧ w.cell? ⟨b, off + k, none⟩ = some (.slice ak (rows[k]?.getD []).length ck) ∧ Shows B w (.slice ak (rows[k]?.getD []).length ck) (rows[k]?.getD []) := by
  obtain ⟨a', c', vs, hv, h1, h2, h3, h4, h5⟩ := h
  simp only [Value.slice.injEq] at hv
  obtain ⟨rfl, _, _⟩ := hv
  obtain ⟨b, off, ha, hlt, hc⟩ := h4 (by intro e; rw [e] at hk; simp at hk)
  have hv := hc k (vs[k]'(by omega)) (List.getElem?_eq_getElem _)
  have hs := h5 k (vs[k]'(by omega)) rows[k] (List.getElem?_eq_getElem _) (List.getElem?_eq_getElem _)
  have hs2 := hs
  obtain ⟨ak, ck, e, _⟩ := hs
  rw [e] at hv hs2
  refine ⟨b, off, ak, ck, ha, ?_, ?_⟩
  · simpa [List.getElem?_eq_getElem hk] using hv
  · simpa [List.getElem?_eq_getElem hk] using hs2

/-- How many bytes the first blobs have. -/
def wide (rows : List (List UInt8)) : Nat := (rows.map fun r => 4 + r.length).sum

theorem wide_snoc (rows : List (List UInt8)) (r : List UInt8) : wide (rows ++ [r]) = wide rows + (4 + r.length) := by simp [wide]

theorem wide_take (rows : List (List UInt8)) (k : Nat) (h : k < rows.length) : wide (rows.take (k + 1)) = wide (rows.take k) + (4 + (rows[k]?.getD []).length) := by
  rw [List.take_succ_eq_append_getElem h, wide_snoc]
  simp [List.getElem?_eq_getElem h]

/-- The blobs, one behind another. -/
def blobs (rows : List (List UInt8)) : List UInt8 := (rows.map blob).flatten

theorem blobs_take (rows : List (List UInt8)) (k : Nat) (h : k < rows.length) : blobs (rows.take (k + 1)) = blobs (rows.take k) ++ blob (rows[k]?.getD []) := by
  rw [List.take_succ_eq_append_getElem h, blobs, List.map_append, List.flatten_append, List.getElem?_eq_getElem h]
  simp only [blobs, List.map_cons, List.map_nil, List.flatten_cons, List.flatten_nil, List.append_nil, Option.getD_some]

theorem blobs_length (rows : List (List UInt8)) : (blobs rows).length = wide rows := by
  induction rows with
  | nil => rfl
  | cons r rows ih => simp [blobs, wide, blob_length] at ih ⊢; omega

/-- Are all blobs short enough? -/
def fits (rows : List (List UInt8)) : Prop := ∀ r ∈ rows, r.length ≤ 65536

theorem wide_le (rows : List (List UInt8)) (h : fits rows) : wide rows ≤ rows.length * 65540 := by
  induction rows with
  | nil => simp [wide]
  | cons r rows ih =>
    have h1 := h r (by simp)
    have h2 := ih fun x hx => h x (by simp [hx])
    simp [wide] at h2 ⊢
    omega

/-- The row's bytes. -/
def rowBytes (rows : List (List UInt8)) : List UInt8 := be rows.length 4 ++ blobs rows

/-- Row's answer: the error, the bytes. -/
def rowOf (rows : List (List UInt8)) : Nat × List UInt8 :=
  if 4096 < rows.length ∨ ∃ m, m < rows.length ∧ 65536 < (rows[m]?.getD []).length then (2, []) else (0, rowBytes rows)

theorem rowOf_ok (rows : List (List UInt8)) (h : (rowOf rows).1 = 0) : rows.length ≤ 4096 ∧ fits rows ∧ rowOf rows = (0, rowBytes rows) := by
  unfold rowOf at h ⊢
  split at h
  · simp at h
  · rename_i hn
    rw [if_neg hn]
    refine ⟨by omega, fun r hr => ?_, rfl⟩
    obtain ⟨j, hj, rfl⟩ := List.getElem_of_mem hr
    rcases Nat.lt_or_ge 65536 rows[j].length with h1 | h1
    · exact absurd (.inr ⟨j, hj, by rw [List.getElem?_eq_getElem hj]; exact h1⟩) hn
    · exact h1

end Go.Proofs.Ytnhgjjpjmfjmjaa
