/- LexBack: what was written is cut into the same tokens. -/
import Derived.Test.YtokfphfgcjbpkaaGreatDoorLSame
import Derived.Test.YtokfphfgcjbpkaaGreatDoorLWrite
namespace Go.Proofs.YtokfphfgcjbpkaaGreatDoor
open Go.RowKit Go.Shelf
set_option linter.unusedVariables false
set_option linter.unusedSimpArgs false
set_option maxRecDepth 20000

theorem wrs_z (l : List Tk) : wrs (l.map Tk.z) = wrs l := by
  unfold wrs
  rw [List.filter_map, List.map_map]
  rfl

theorem okT_z {t : Tk} : OkT t.z ↔ OkT t := Iff.rfl

theorem GoodT.ok {t : Tk} (h : GoodT t) : OkT t := ⟨h.len, h.n0, h.n1⟩

/-- The tokens of a source: good ones, and the end. -/
theorem tokens_good {s : List UInt8} (h : (tokens s).1 = 0) : s.length ≤ 2000 ∧ (tokens s).2.1 = 0 ∧ ∃ L, (tokens s).2.2 = L ++ [⟨6, [], 0, (s.length : Int)⟩] ∧ L.length ≤ s.length ∧ ∀ t ∈ L, GoodT t := by
  have hl : ¬ 2000 < s.length := fun hl => by rw [tokens, if_pos hl] at h; exact absurd (show (2 : Nat) = 0 from h) (by decide)
  have e : tokens s = toks (s.length + 1) s 0 := by rw [tokens, if_neg hl]
  rw [e] at h ⊢
  refine ⟨by omega, (toks_form _ _ _).2 h, ?_⟩
  obtain ⟨L, h1, h2, h3⟩ := toks_good (s.length + 1) s 0 (by omega) h
  exact ⟨L, by rw [h1, Nat.zero_add], h2, h3⟩

theorem tokens_bad {s : List UInt8} (h : (tokens s).1 ≠ 0) : (tokens s).2.2 = [] := by
  unfold tokens at h ⊢
  split
  · rfl
  · rename_i hl
    rw [if_neg hl] at h
    exact (toks_form _ _ _).1 h

theorem wrs_good {L : List Tk} (h : ∀ t ∈ L, GoodT t) (e : Tk) (he : e.k = 6) : wrs (L ++ [e]) = L.map wr := by
  rw [wrs_snoc, if_pos he]
  unfold wrs
  rw [List.filter_eq_self.2]
  intro t ht
  have := (h t ht).k6
  simpa using this

/-- LexBack's plain part. -/
theorem back_plain {s : List UInt8} (h : (tokens s).1 = 0) :
    (∀ t ∈ (tokens s).2.2, OkT t) ∧ (tokens s).2.2.length ≤ 2001 ∧
    ((Lib.join (wrs (tokens s).2.2) [32]).length ≤ 2000 → ∃ l', tokens (Lib.join (wrs (tokens s).2.2) [32]) = (0, 0, l') ∧ (tokens s).2.2.map Tk.z = l'.map Tk.z ∧ (∀ t ∈ l', OkT t) ∧ l'.length ≤ 2001 ∧ wrs l' = wrs (tokens s).2.2) := by
  obtain ⟨hs, _, L, hL, hLl, hg⟩ := tokens_good h
  rw [hL]
  have hok : ∀ t ∈ L ++ [(⟨6, [], 0, (s.length : Int)⟩ : Tk)], OkT t := fun t ht => by
    rcases List.mem_append.1 ht with ht | ht
    · exact (hg t ht).ok
    · rw [List.mem_singleton] at ht
      subst ht
      exact ⟨by simp, Int.le_refl _, by show (0 : Int) ≤ _; decide⟩
  refine ⟨hok, by simp; omega, fun hj => ?_⟩
  rw [wrs_good hg _ rfl] at hj ⊢
  obtain ⟨l', h1, h2⟩ := back L hg hj
  have hz : (L ++ [(⟨6, [], 0, (s.length : Int)⟩ : Tk)]).map Tk.z = l'.map Tk.z := by rw [h2, List.map_append]; rfl
  refine ⟨l', h1, hz, fun t ht => ?_, ?_, ?_⟩
  · have : t.z ∈ (L ++ [(⟨6, [], 0, (s.length : Int)⟩ : Tk)]).map Tk.z := by rw [hz]; exact List.mem_map.2 ⟨t, ht, rfl⟩
    obtain ⟨x, hx, e⟩ := List.mem_map.1 this
    rw [← okT_z, ← e, okT_z]
    exact hok x hx
  · have := congrArg List.length hz
    simp at this
    omega
  · rw [← wrs_z l', ← hz, wrs_z, wrs_good hg _ rfl]

/-- A box of two cells. -/
theorem box2 (w : World) (a b : Value) (t : TypeId) : ∃ W, w.alloc (.cells #[a, b] t) = W ∧ Below w.heap.size w W ∧ w.heap.size < W.heap.size ∧ ∀ W', Below W.heap.size W W' → W'.heap[w.heap.size]? = some (.cells #[a, b] t) :=
  ⟨_, rfl, (Below.refl _ _).alloc (Nat.le_refl _) _, by simp, fun W' h => (h.block _ (by simp)).trans (heap_alloc_new w _)⟩

end Go.Proofs.YtokfphfgcjbpkaaGreatDoor
