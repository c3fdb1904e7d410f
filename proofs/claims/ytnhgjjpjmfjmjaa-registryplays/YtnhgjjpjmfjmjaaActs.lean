/- A slice of acts, as it lies in memory. -/
import Derived.Test.YtnhgjjpjmfjmjaaSmall3
namespace Go.Proofs.Ytnhgjjpjmfjmjaa
open Go.RowKit Go.Maps
set_option linter.unusedVariables false

/-- One act: Do, Who, B (its value and what it shows), N. -/
structure ActV where
  d : Int
  who : Int
  vb : Value
  bs : List UInt8
  n : Int

/-- v IS A SLICE OF THE ACTS as, below block B. -/
def Acts (B : Nat) (w : World) (v : Value) (xs : List ActV) : Prop :=
  ∃ a c, v = .slice a xs.length c ∧ xs.length ≤ c ∧ c ≤ maxLen ∧ (xs ≠ [] → ∃ b off, a = some ⟨b, off, none⟩ ∧ b < B ∧ ∀ j x, xs[j]? = some x →
    w.cell? ⟨b, off + j * 4, none⟩ = some (.int .i64 x.d) ∧ w.cell? ⟨b, off + j * 4 + 1, none⟩ = some (.int .i64 x.who) ∧ w.cell? ⟨b, off + j * 4 + 2, none⟩ = some x.vb ∧ w.cell? ⟨b, off + j * 4 + 3, none⟩ = some (.int .i64 x.n) ∧
    I64 x.d ∧ I64 x.who ∧ I64 x.n ∧ Shows B w x.vb x.bs ∧ x.bs.length ≤ 140737488351232)

theorem Acts.below {B : Nat} {w w' : World} {v : Value} {xs : List ActV} (h : Acts B w v xs) (hb : Below B w w') : Acts B w' v xs := by
  obtain ⟨a, c, hv, h1, h2, h3⟩ := h
  refine ⟨a, c, hv, h1, h2, fun hne => ?_⟩
  obtain ⟨b, off, ha, hlt, hc⟩ := h3 hne
  refine ⟨b, off, ha, hlt, fun j x hx => ?_⟩
  obtain ⟨c0, c1, c2, c3, i0, i1, i2, sh, hl⟩ := hc j x hx
  exact ⟨by rw [hb.cell (p := ⟨b, off + j * 4, none⟩) hlt]; exact c0, by rw [hb.cell (p := ⟨b, off + j * 4 + 1, none⟩) hlt]; exact c1, by rw [hb.cell (p := ⟨b, off + j * 4 + 2, none⟩) hlt]; exact c2,
    by rw [hb.cell (p := ⟨b, off + j * 4 + 3, none⟩) hlt]; exact c3, i0, i1, i2, sh.below hb, hl⟩

/-- The act of number k, read in a later world. -/
theorem Acts.at {B : Nat} {w : World} {a : Option Addr} {l c : Nat} {xs : List ActV} (h : Acts B w (.slice a l c) xs) (k : Nat) (hk : k < xs.length) :
    ∃ b off x va vc, a = some ⟨b, off, none⟩ ∧ b < B ∧ xs[k]? = some x ∧ x.vb = .slice va x.bs.length vc ∧
    w.cell? ⟨b, off + k * 4, none⟩ = some (.int .i64 x.d) ∧ w.cell? ⟨b, off + k * 4 + 1, none⟩ = some (.int .i64 x.who) ∧ w.cell? ⟨b, off + k * 4 + 2, none⟩ = some (.slice va x.bs.length vc) ∧ w.cell? ⟨b, off + k * 4 + 3, none⟩ = some (.int .i64 x.n) ∧
    I64 x.d ∧ I64 x.who ∧ I64 x.n ∧ Shows B w (.slice va x.bs.length vc) x.bs ∧ x.bs.length ≤ 140737488351232 := by
  obtain ⟨a', c', hv, h1, h2, h3⟩ := h
  simp only [Value.slice.injEq] at hv
  obtain ⟨rfl, rfl, rfl⟩ := hv
  obtain ⟨b, off, rfl, hlt, hc⟩ := h3 (by intro e; rw [e] at hk; simp at hk)
  have hx := List.getElem?_eq_getElem hk
  obtain ⟨c0, c1, c2, c3, i0, i1, i2, sh, hl⟩ := hc k _ hx
  obtain ⟨va, vc, hvb, _⟩ := id sh
  rw [hvb] at c2 sh
  exact ⟨b, off, _, va, vc, rfl, hlt, hx, hvb, c0, c1, c2, c3, i0, i1, i2, sh, hl⟩

/-- Who is known behind one more Sign. -/
theorem mem_signL (L : List Pr) (who who' : Int) (t t' : List UInt8) : decide ((who, t) ∈ signL L who' t') = (decide ((who, t) ∈ L) || (decide (signE who' t' = 0) && (decide (who' = who) && decide (t' = t)))) := by
  rw [Bool.eq_iff_iff]
  simp only [Bool.or_eq_true, Bool.and_eq_true, decide_eq_true_iff]
  unfold signL
  by_cases h : signE who' t' = 0 ∧ (who', t') ∉ L
  · rw [if_pos h, List.mem_append, List.mem_singleton, Prod.mk.injEq]
    constructor
    · rintro (e | ⟨e1, e2⟩)
      · exact .inl e
      · exact .inr ⟨h.1, e1.symm, e2.symm⟩
    · rintro (e | ⟨_, e1, e2⟩)
      · exact .inl e
      · exact .inr ⟨e1.symm, e2.symm⟩
  · rw [if_neg h]
    refine ⟨.inl, ?_⟩
    rintro (e | ⟨e0, e1, e2⟩)
    · exact e
    · subst e1 e2
      exact Classical.byContradiction fun hn => h ⟨e0, hn⟩
end Go.Proofs.Ytnhgjjpjmfjmjaa
