/- Plain: the tokens of a source. -/
import Derived.Test.YtokfphfgcjbpkaaGreatDoorLCut
import Derived.Lib.Join
namespace Go.Proofs.YtokfphfgcjbpkaaGreatDoor
set_option linter.unusedVariables false
set_option linter.unusedSimpArgs false

/-- One token ahead of what comes of the rest. -/
def conT (t : Tk) (r : Nat × Int × List Tk) : Nat × Int × List Tk := if r.1 = 0 then (0, 0, t :: r.2.2) else r

/-- THE TOKENS of a text that begins at a place: what is wrong, where, the tokens. -/
def toks : Nat → List UInt8 → Nat → Nat × Int × List Tk
  | 0, _, _ => (0, 0, [])
  | f + 1, s, at' =>
    if s.length ≤ skip false s then (0, 0, [⟨6, [], 0, ((at' + skip false s : Nat) : Int)⟩])
    else if (cutT (s.drop (skip false s))).1 ≠ 0 then ((cutT (s.drop (skip false s))).1, ((at' + skip false s : Nat) : Int), [])
    else conT ⟨(cutT (s.drop (skip false s))).2.1.k, (cutT (s.drop (skip false s))).2.1.s, (cutT (s.drop (skip false s))).2.1.n, ((at' + skip false s : Nat) : Int)⟩ (toks f ((s.drop (skip false s)).drop (cutT (s.drop (skip false s))).2.2) (at' + skip false s + (cutT (s.drop (skip false s))).2.2))

/-- Tokens' answer. -/
def tokens (s : List UInt8) : Nat × Int × List Tk := if 2000 < s.length then (2, -1, []) else toks (s.length + 1) s 0

theorem toks_end {f : Nat} {s : List UInt8} {at' : Nat} (h : s.length ≤ skip false s) : toks (f + 1) s at' = (0, 0, [⟨6, [], 0, ((at' + skip false s : Nat) : Int)⟩]) := by
  rw [toks, if_pos h]

theorem toks_err {f : Nat} {s : List UInt8} {at' e n : Nat} {t : Tk} (h : skip false s < s.length) (hc : cutT (s.drop (skip false s)) = (e, t, n)) (he : e ≠ 0) : toks (f + 1) s at' = (e, ((at' + skip false s : Nat) : Int), []) := by
  rw [toks, if_neg (by omega), hc, if_pos he]

theorem toks_one {f : Nat} {s : List UInt8} {at' n : Nat} {t : Tk} (h : skip false s < s.length) (hc : cutT (s.drop (skip false s)) = (0, t, n)) : toks (f + 1) s at' = conT ⟨t.k, t.s, t.n, ((at' + skip false s : Nat) : Int)⟩ (toks f ((s.drop (skip false s)).drop n) (at' + skip false s + n)) := by
  rw [toks, if_neg (by omega), hc, if_neg (by simp)]

/-- As many rounds as there are bytes are enough. -/
theorem toks_more : ∀ (f g : Nat) (s : List UInt8) (at' : Nat), s.length < f → s.length < g → toks f s at' = toks g s at'
  | f + 1, g + 1, s, at', hf, hg => by
    by_cases h : s.length ≤ skip false s
    · rw [toks_end h, toks_end h]
    · obtain ⟨⟨e, t, n⟩, hc⟩ : ∃ x, cutT (s.drop (skip false s)) = x := ⟨_, rfl⟩
      by_cases he : e = 0
      · subst he
        have hl := cut_local hc
        rw [toks_one (by omega) hc, toks_one (by omega) hc, toks_more f g _ _ (by simp; omega) (by simp; omega)]
      · rw [toks_err (by omega) hc he, toks_err (by omega) hc he]

theorem conT_ok {t : Tk} {r : Nat × Int × List Tk} (h : (conT t r).1 = 0) : r.1 = 0 ∧ conT t r = (0, 0, t :: r.2.2) := by
  unfold conT at h ⊢
  split at h
  · rename_i e; exact ⟨e, if_pos e⟩
  · contradiction

theorem conT_err {t : Tk} {r : Nat × Int × List Tk} (h : (conT t r).1 ≠ 0) : conT t r = r ∧ r.1 ≠ 0 := by
  unfold conT at h ⊢
  split at h
  · simp at h
  · rename_i e; exact ⟨if_neg e, h⟩

/-- With an error there is no token; without one no place. -/
theorem toks_form : ∀ (f : Nat) (s : List UInt8) (at' : Nat), ((toks f s at').1 ≠ 0 → (toks f s at').2.2 = []) ∧ ((toks f s at').1 = 0 → (toks f s at').2.1 = 0)
  | 0, s, at' => by simp [toks]
  | f + 1, s, at' => by
    by_cases h : s.length ≤ skip false s
    · rw [toks_end h]; simp
    · obtain ⟨⟨e, t, n⟩, hc⟩ : ∃ x, cutT (s.drop (skip false s)) = x := ⟨_, rfl⟩
      by_cases he : e = 0
      · subst he
        rw [toks_one (by omega) hc]
        have ih := toks_form f ((s.drop (skip false s)).drop n) (at' + skip false s + n)
        unfold conT
        split
        · simp
        · rename_i h0; exact ⟨fun _ => ih.1 h0, fun e => absurd e h0⟩
      · rw [toks_err (by omega) hc he]; simp [he]

/-- How the tokens of a text begin: nothing more, or one and what comes of the rest. -/
theorem toks_ok {f : Nat} {s : List UInt8} {at' : Nat} (h : (toks (f + 1) s at').1 = 0) :
    (s.length = skip false s ∧ toks (f + 1) s at' = (0, 0, [⟨6, [], 0, ((at' + skip false s : Nat) : Int)⟩])) ∨
    ∃ t n, skip false s < s.length ∧ cutT (s.drop (skip false s)) = (0, t, n) ∧ (toks f ((s.drop (skip false s)).drop n) (at' + skip false s + n)).1 = 0 ∧
      toks (f + 1) s at' = (0, 0, ⟨t.k, t.s, t.n, ((at' + skip false s : Nat) : Int)⟩ :: (toks f ((s.drop (skip false s)).drop n) (at' + skip false s + n)).2.2) := by
  have hle := skip_le s false
  by_cases hs : s.length ≤ skip false s
  · exact .inl ⟨by omega, toks_end hs⟩
  · obtain ⟨⟨e, t, n⟩, hc⟩ : ∃ x, cutT (s.drop (skip false s)) = x := ⟨_, rfl⟩
    by_cases he : e = 0
    · subst he
      rw [toks_one (by omega) hc] at h ⊢
      obtain ⟨h1, h2⟩ := conT_ok h
      exact .inr ⟨t, n, by omega, hc, h1, h2⟩
    · rw [toks_err (by omega) hc he] at h
      exact absurd h he

/-- The first token's place. -/
theorem toks_first {f : Nat} {s : List UInt8} {at' : Nat} (h : (toks (f + 1) s at').1 = 0) : ∃ b r, (toks (f + 1) s at').2.2 = b :: r ∧ b.p = ((at' + skip false s : Nat) : Int) := by
  rcases toks_ok h with ⟨_, e⟩ | ⟨t, n, _, _, _, e⟩
  · rw [e]; exact ⟨_, _, rfl, rfl⟩
  · rw [e]; exact ⟨_, _, rfl, rfl⟩

/-- The last token is the end. -/
theorem toks_last : ∀ (f : Nat) (s : List UInt8) (at' : Nat), s.length < f → (toks f s at').1 = 0 → ∃ l, (toks f s at').2.2 = l ++ [⟨6, [], 0, ((at' + s.length : Nat) : Int)⟩] ∧ l.length ≤ s.length
  | f + 1, s, at', hf, h => by
    rcases toks_ok h with ⟨hl, e⟩ | ⟨t, n, hlt, hc, h1, e⟩
    · rw [e, ← hl]; exact ⟨[], rfl, by simp⟩
    · have hcl := cut_local hc
      have hd : (s.drop (skip false s)).length = s.length - skip false s := by simp
      obtain ⟨l, hl, hle⟩ := toks_last f ((s.drop (skip false s)).drop n) (at' + skip false s + n) (by simp; omega) h1
      rw [e, hl]
      refine ⟨⟨t.k, t.s, t.n, ((at' + skip false s : Nat) : Int)⟩ :: l, ?_, by simp at hle ⊢; omega⟩
      have ee : at' + skip false s + n + ((s.drop (skip false s)).drop n).length = at' + s.length := by simp at hcl ⊢; omega
      rw [ee]
      rfl
end Go.Proofs.YtokfphfgcjbpkaaGreatDoor
