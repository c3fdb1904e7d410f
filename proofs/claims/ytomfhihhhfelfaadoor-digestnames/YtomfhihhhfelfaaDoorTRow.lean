/- Contract of plain.TakeRow. -/
import Derived.Test.YtomfhihhhfelfaaDoorTake
namespace Go.Proofs.YtomfhihhhfelfaaDoor
open Go.RowKit
set_option linter.unusedVariables false

/-- n blobs one behind another, from byte i on: the error, the blobs, where they end. -/
def trows (bs : List UInt8) : Nat → Nat → Nat × List (List UInt8) × Nat
  | 0, i => (0, [], i)
  | n + 1, i =>
    if (tblob (bs.drop i)).1 ≠ 0 then ((tblob (bs.drop i)).1, [], 0)
    else if (trows bs n (i + (tblob (bs.drop i)).2.2)).1 ≠ 0 then ((trows bs n (i + (tblob (bs.drop i)).2.2)).1, [], 0)
    else (0, (tblob (bs.drop i)).2.1 :: (trows bs n (i + (tblob (bs.drop i)).2.2)).2.1, (trows bs n (i + (tblob (bs.drop i)).2.2)).2.2)

/-- TakeRow's answer: the error, the blobs, how many bytes they take. -/
def trow (bs : List UInt8) : Nat × List (List UInt8) × Nat :=
  if (tcount bs 4096).2 ≠ 0 then ((tcount bs 4096).2, [], 0) else trows bs (tcount bs 4096).1 4

/-- What has been gathered, and then the rest. -/
def thenRows (rows : List (List UInt8)) (r : Nat × List (List UInt8) × Nat) : Nat × List (List UInt8) × Nat :=
  if r.1 ≠ 0 then (r.1, [], 0) else (0, rows ++ r.2.1, r.2.2)

theorem thenRows_err (rows : List (List UInt8)) (bs : List UInt8) (n i : Nat) (h : (tblob (bs.drop i)).1 ≠ 0) : thenRows rows (trows bs (n + 1) i) = ((tblob (bs.drop i)).1, [], 0) := by
  simp [thenRows, trows, h]

theorem thenRows_next (rows : List (List UInt8)) (bs : List UInt8) (n i : Nat) (h : (tblob (bs.drop i)).1 = 0) :
    thenRows rows (trows bs (n + 1) i) = thenRows (rows ++ [(tblob (bs.drop i)).2.1]) (trows bs n (i + (tblob (bs.drop i)).2.2)) := by
  by_cases h2 : (trows bs n (i + (tblob (bs.drop i)).2.2)).1 = 0 <;> simp [thenRows, trows, h, h2]

theorem thenRows_nil (bs : List UInt8) (n i : Nat) : thenRows [] (trows bs n i) = trows bs n i := by
  cases n with
  | zero => simp [thenRows, trows]
  | succ n =>
    simp only [trows]
    split
    · simp [thenRows, *]
    · split
      · simp [thenRows, *]
      · simp [thenRows]

theorem tblob_used (bs : List UInt8) (h : (tblob bs).1 = 0) : 4 ≤ (tblob bs).2.2 ∧ (tblob bs).2.2 ≤ bs.length ∧ (tblob bs).2.1.length ≤ 65536 ∧ (tblob bs).2.2 = 4 + (tblob bs).2.1.length := by
  unfold tblob at h ⊢
  split at h
  · rename_i hz
    exact absurd h hz
  · rename_i hz
    split at h
    · simp at h
    · rename_i hl
      have := tcount_ok bs 65536 (by simpa using hz)
      rw [if_neg hz, if_neg hl]
      simp
      omega

theorem tblob_err (bs : List UInt8) : (tblob bs).1 ≤ 3 := by
  unfold tblob
  have := tcount_err bs 65536
  split
  · exact this
  · split <;> simp

/-- Slices of bytes that the call owns, each apart from the others, none nil. -/
structure RowsOwn (w : World) (B : Nat) (vs : List Value) (rows : List (List UInt8)) : Prop where
  len : vs.length = rows.length
  own : ∀ (j : Nat) (v : Value) (r : List UInt8), vs[j]? = some v → rows[j]? = some r → w.ownsRow B 5 1 v r.length (r.map by8) ∧ ∃ g cap, v = .slice (some ⟨g, 0, none⟩) r.length cap
  apart : ∀ (i j : Nat) (u v : Value), vs[i]? = some u → vs[j]? = some v → i ≠ j → u.ownBlock ≠ v.ownBlock

theorem RowsOwn.nil (w : World) (B : Nat) : RowsOwn w B [] [] := ⟨rfl, fun _ _ _ h => by simp at h, fun _ _ _ _ h => by simp at h⟩

theorem ownsRow_below {w w' : World} {B e n : Nat} {v : Value} {xs : List Value} (h : w.ownsRow B e 1 v n xs) (hb : Below w.heap.size w w') : w'.ownsRow B e 1 v n xs := by
  refine ⟨h.1, ?_⟩
  rcases h.2 with hn | ⟨g, cap, cur, hv, hB, hg, r⟩
  · exact .inl hn
  · exact .inr ⟨g, cap, cur, hv, hB, by rw [hb.block g (Array.getElem?_eq_some_iff.1 hg).1]; exact hg, r⟩

theorem RowsOwn.below {w w' : World} {B : Nat} {vs : List Value} {rows : List (List UInt8)} (h : RowsOwn w B vs rows) (hb : Below w.heap.size w w') : RowsOwn w' B vs rows :=
  ⟨h.len, fun j v r hv hr => ⟨ownsRow_below (h.own j v r hv hr).1 hb, (h.own j v r hv hr).2⟩, h.apart⟩

/-- Behind an append to a row of another element type. -/
theorem RowsOwn.kept {w w' : World} {B n : Nat} {vs : List Value} {rows : List (List UInt8)} {v : Value} {xs : List Value} (h : RowsOwn w B vs rows) (hv : w.ownsRow B 22 1 v n xs) (hg : w.grownBy w' v.ownBlock) : RowsOwn w' B vs rows := by
  refine ⟨h.len, fun j u r hu hr => ⟨?_, (h.own j u r hu hr).2⟩, h.apart⟩
  have ho := (h.own j u r hu hr).1
  refine ho.kept hg ?_
  obtain ⟨g, cap, rfl⟩ := (h.own j u r hu hr).2
  right
  intro e
  rcases hv.2 with ⟨rfl, _⟩ | ⟨g2, cap2, cur2, rfl, _, hg2, _⟩
  · simp [Value.ownBlock] at e
  · simp only [Value.ownBlock, Option.some.injEq] at e
    subst e
    rcases ho.2 with ⟨e2, _⟩ | ⟨g3, cap3, cur3, e3, _, hg3, _⟩
    · simp at e2
    · simp only [Value.slice.injEq, Option.some.injEq, Addr.mk.injEq] at e3
      obtain ⟨⟨rfl, _, _⟩, _, _⟩ := e3
      rw [hg2] at hg3
      simp at hg3

theorem RowsOwn.snoc {w : World} {B C : Nat} {vs : List Value} {rows : List (List UInt8)} {v : Value} {r : List UInt8} (h : RowsOwn w B vs rows) (hBC : B ≤ C) (hv : w.ownsRow C 5 1 v r.length (r.map by8))
    (hs : ∃ g cap, v = .slice (some ⟨g, 0, none⟩) r.length cap) (hlt : ∀ u ∈ vs, ∀ g, u.ownBlock = some g → g < C) : RowsOwn w B (vs ++ [v]) (rows ++ [r]) := by
  have hvB : w.ownsRow B 5 1 v r.length (r.map by8) := by
    refine ⟨hv.1, ?_⟩
    rcases hv.2 with hn | ⟨g, cap, cur, e, hC, rest⟩
    · exact .inl hn
    · exact .inr ⟨g, cap, cur, e, by omega, rest⟩
  have hnew : ∀ u ∈ vs, u.ownBlock ≠ v.ownBlock := by
    intro u hu e
    obtain ⟨g, cap, rfl⟩ := hs
    have h1 := hlt u hu g (by rw [e]; rfl)
    have h2 := (hv.lt g rfl).1
    omega
  refine ⟨by simp [h.len], fun j u q hu hq => ?_, fun i j u q hu hq hij => ?_⟩
  · rcases Nat.lt_or_ge j vs.length with hj | hj
    · rw [List.getElem?_append_left hj] at hu
      rw [List.getElem?_append_left (by rw [← h.len]; exact hj)] at hq
      exact h.own j u q hu hq
    · rw [List.getElem?_append_right hj] at hu
      rw [List.getElem?_append_right (by rw [← h.len]; exact hj), ← h.len] at hq
      cases e : j - vs.length with
      | zero =>
        rw [e] at hu hq
        simp at hu hq
        subst hu hq
        exact ⟨hvB, hs⟩
      | succ m => rw [e] at hu; simp at hu
  · rcases Nat.lt_or_ge i vs.length with hi | hi <;> rcases Nat.lt_or_ge j vs.length with hj | hj
    · rw [List.getElem?_append_left hi] at hu
      rw [List.getElem?_append_left hj] at hq
      exact h.apart i j u q hu hq hij
    · rw [List.getElem?_append_left hi] at hu
      have hjl : j = vs.length := by
        have := (List.getElem?_eq_some_iff.1 hq).1
        simp at this
        omega
      subst hjl
      rw [List.getElem?_append_right (Nat.le_refl _)] at hq
      simp at hq
      subst hq
      exact hnew u (List.mem_of_getElem? hu)
    · rw [List.getElem?_append_left hj] at hq
      have hil : i = vs.length := by
        have := (List.getElem?_eq_some_iff.1 hu).1
        simp at this
        omega
      subst hil
      rw [List.getElem?_append_right (Nat.le_refl _)] at hu
      simp at hu
      subst hu
      exact fun e => hnew q (List.mem_of_getElem? hq) e.symm
    · have h1 := (List.getElem?_eq_some_iff.1 hu).1
      have h2 := (List.getElem?_eq_some_iff.1 hq).1
      simp at h1 h2
      omega

theorem RowsOwn.lt {w : World} {B : Nat} {vs : List Value} {rows : List (List UInt8)} (h : RowsOwn w B vs rows) : ∀ u ∈ vs, ∀ g, u.ownBlock = some g → B ≤ g ∧ g < w.heap.size := by
  intro u hu g hg
  obtain ⟨j, hj⟩ := List.getElem?_of_mem hu
  have hjr : j < rows.length := by rw [← h.len]; exact (List.getElem?_eq_some_iff.1 hj).1
  exact (h.own j u rows[j] hj (List.getElem?_eq_getElem hjr)).1.lt g hg

theorem Tryd.infoBytes : (Tryd.prog.info? 22).map (fun i => (i.zero, i.size, i.bytes)) = some (some (.slice none 0 0), 1, 24) := by kernel_rfl

theorem own_shape {w : World} {B e n : Nat} {v : Value} {xs : List Value} (h : w.ownsRow B e 1 v n xs) (hn : v ≠ .slice none 0 0) : ∃ g cap, v = .slice (some ⟨g, 0, none⟩) n cap := by
  rcases h.2 with ⟨e, _⟩ | ⟨g, cap, _, e, _⟩
  · exact absurd e hn
  · exact ⟨g, cap, e⟩

/-- What TakeRow hands back: a list of slices of bytes, all its own. -/
def RowsAt (w : World) (B : Nat) (v : Value) (rows : List (List UInt8)) : Prop :=
  ∃ vs, w.ownsRow B 22 1 v rows.length vs ∧ RowsOwn w B vs rows

theorem trow_ok (bs : List UInt8) (h : (tcount bs 4096).2 = 0) : trow bs = trows bs (tcount bs 4096).1 4 := by simp [trow, h]
theorem trow_no (bs : List UInt8) (h : (tcount bs 4096).2 ≠ 0) : trow bs = ((tcount bs 4096).2, [], 0) := by simp [trow, h]

end Go.Proofs.YtomfhihhhfelfaaDoor
