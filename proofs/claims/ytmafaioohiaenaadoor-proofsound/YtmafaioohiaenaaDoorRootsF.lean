/- Contracts of trie.rootOf and trie.RootOf. -/
import Derived.Test.YtmafaioohiaenaaDoorAllF
import Derived.Test.YtmafaioohiaenaaDoorDeleteF
import Derived.Deep.CutBlock
namespace Go.Proofs.YtmafaioohiaenaaDoor
open Go.RowKit Go.Shelf
set_option linter.unusedVariables false
set_option linter.unusedSimpArgs false
set_option maxRecDepth 20000

theorem ent_at {xs : List EntV} {l : List Ent} (h : xs.map EntV.ent = l) {i : Nat} {x : EntV} (hi : xs[i]? = some x) : l[i]? = some (x.k, x.v) := by
  rw [← h, List.getElem?_map, hi]; rfl

theorem side_bits {p : Nat} {l r : Tri} (h : (Tri.fork p l r).WF) {xs : List EntV} (hx : xs.map EntV.ent = (Tri.fork p l r).ents) {i : Nat} {x : EntV} (hi : xs[i]? = some x) : bit x.k p = decide (l.ents.length ≤ i) := by
  have h1 := ent_at hx hi
  simp only [Tri.ents] at h1
  obtain ⟨_, _, h0, h1', _⟩ := h
  rcases Nat.lt_or_ge i l.ents.length with hlt | hge
  · rw [List.getElem?_append_left hlt] at h1
    have := h0 _ (List.mem_of_getElem? h1)
    simp only at this
    rw [this, decide_eq_false (by omega)]
  · rw [List.getElem?_append_right hge] at h1
    have := h1' _ (List.mem_of_getElem? h1)
    simp only at this
    rw [this, decide_eq_true hge]

theorem ends_unlike {p : Nat} {l r : Tri} (h : (Tri.fork p l r).WF) {xs : List EntV} (hx : xs.map EntV.ent = (Tri.fork p l r).ents) {j : Nat} {x y : EntV} (hi : xs[0]? = some x) (hj : xs[j]? = some y) (hjl : l.ents.length ≤ j) : fu x.k y.k = p := by
  have b1 := side_bits h hx hi
  have b2 := side_bits h hx hj
  have m1 := List.mem_of_getElem? (ent_at hx hi)
  have m2 := List.mem_of_getElem? (ent_at hx hj)
  have := Tri.ents_pos l
  rw [decide_eq_false (by omega)] at b1
  rw [decide_eq_true hjl] at b2
  exact fu_unique _ _ _ (fun i hi => Tri.alike p l r h _ _ m1 m2 i hi) (by rw [b1, b2]; simp)

theorem fork_parts {p : Nat} {l r : Tri} {xs : List EntV} (hx : xs.map EntV.ent = (Tri.fork p l r).ents) : (xs.take l.ents.length).map EntV.ent = l.ents ∧ (xs.drop l.ents.length).map EntV.ent = r.ents ∧ xs.length = l.ents.length + r.ents.length := by
  refine ⟨?_, ?_, ?_⟩
  · rw [List.map_take, hx, Tri.ents, List.take_left]
  · rw [List.map_drop, hx, Tri.ents, List.drop_left]
  · have := congrArg List.length hx; simpa [Tri.ents] using this

theorem heap_setCells : ∀ (vs : List Value) (W : World) (g o k : Nat), k ≠ g → (W.setCells g o vs).heap[k]? = W.heap[k]?
  | [], W, g, o, k, h => rfl
  | v :: vs, W, g, o, k, h => by
    simp only [World.setCells]
    rw [heap_setCells vs _ g (o + 1) k h]
    exact Below.heap_setCell W ⟨g, o, none⟩ v k h

theorem cell_setCells (vs : List Value) (W : World) (g o : Nat) (ad : Addr) (h : ad.block ≠ g) : (W.setCells g o vs).cell? ad = W.cell? ad := World.cell?_of_block (heap_setCells vs W g o ad.block h)

theorem Tryd.infoInt4 : (Tryd.prog.info? 3).map (·.size) = some 1 := by kernel_rfl

end Go.Proofs.YtmafaioohiaenaaDoor

/- Contract of trie.RootOf. -/

namespace Go.Proofs.YtmafaioohiaenaaDoor
open Go.RowKit Go.Shelf
set_option linter.unusedVariables false
set_option linter.unusedSimpArgs false
set_option maxRecDepth 20000

theorem rises_of_adj : ∀ (l : List Ent), (∀ i e f, l[i]? = some e → l[i + 1]? = some f → Op.bytesLess e.1 f.1 = true) → Tri.Rises l
  | [], _ => List.Pairwise.nil
  | [e], _ => by simp [Tri.Rises]
  | e :: f :: l, h => by
    have ih := rises_of_adj (f :: l) (fun i a b ha hb => h (i + 1) a b (by simpa using ha) (by simpa using hb))
    have h0 := h 0 e f rfl rfl
    refine List.pairwise_cons.2 ⟨fun g hg => ?_, ih⟩
    rcases List.mem_cons.1 hg with rfl | hg
    · exact h0
    · exact less_trans _ _ _ h0 ((List.pairwise_cons.1 ih).1 g hg)

theorem adj_of_rises {l : List Ent} (h : Tri.Rises l) {i : Nat} {e f : Ent} (hi : l[i]? = some e) (hj : l[i + 1]? = some f) : Op.bytesLess e.1 f.1 = true := by
  obtain ⟨h1, e1⟩ := List.getElem?_eq_some_iff.1 hi
  obtain ⟨h2, e2⟩ := List.getElem?_eq_some_iff.1 hj
  have := (List.pairwise_iff_getElem.1 h) i (i + 1) h1 h2 (by omega)
  rw [e1, e2] at this
  exact this

/-- What RootOf answers of entries. -/
def RootsTo (L : List Ent) (A : Array Value) (e : Int) : Prop :=
  ((∃ x ∈ L, ¬ Tri.short x) ∧ A = zero32 ∧ e = 2) ∨ ((∀ x ∈ L, Tri.short x) ∧ ¬ Tri.Rises L ∧ A = zero32 ∧ e = 1) ∨ (∃ T, Tri.WFO T ∧ Tri.entsO T = L ∧ A = sumV (rootO T) ∧ e = 0)

theorem rootsTo_of {T : Option Tri} (hT : Tri.WFO T) {A : Array Value} {e : Int} (h : RootsTo (Tri.entsO T) A e) : A = sumV (rootO T) ∧ e = 0 := by
  have hs : ∀ x ∈ Tri.entsO T, Tri.short x := by
    cases T with
    | none => intro x hx; cases hx
    | some t => exact Tri.short_of t hT
  have hr : Tri.Rises (Tri.entsO T) := by
    cases T with
    | none => exact List.Pairwise.nil
    | some t => exact Tri.rises t hT
  rcases h with ⟨⟨x, hx, hn⟩, _⟩ | ⟨_, hn, _⟩ | ⟨T', hT', he, hA, h0⟩
  · exact absurd (hs x hx) hn
  · exact absurd hr hn
  · refine ⟨?_, h0⟩
    have : T' = T := by
      cases T with
      | none =>
        cases T' with
        | none => rfl
        | some t' => exact absurd he (Tri.ents_ne t')
      | some t =>
        cases T' with
        | none => exact absurd he.symm (Tri.ents_ne t)
        | some t' => rw [Tri.unique t' t hT' hT he]
    rw [hA, this]

end Go.Proofs.YtmafaioohiaenaaDoor
