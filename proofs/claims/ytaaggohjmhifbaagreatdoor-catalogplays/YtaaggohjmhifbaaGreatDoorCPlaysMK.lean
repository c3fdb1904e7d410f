/- CatalogPlays: both catalogs side by side. -/
import Derived.Test.YtaaggohjmhifbaaGreatDoorCRCatK
namespace Go.Proofs.YtaaggohjmhifbaaGreatDoor
open Go.RowKit Go.Shelf Go.Lib
set_option linter.unusedVariables false
set_option linter.unusedSimpArgs false
set_option maxRecDepth 20000
structure PM (w wr : World) (sb mb rb : Nat) (L T : List Tb) (H : Nat → Prop) : Prop where
  both : ∃ E f S v css D, CatAt wr sb mb E f L S ∧ DocAt wr rb v css T D ∧ (∀ b, S b → w.heap.size ≤ b ∧ ¬ D b ∧ b ≠ rb ∧ ¬ H b) ∧ ∀ b, D b → w.heap.size ≤ b ∧ ¬ H b
  below : Below w.heap.size w wr
  lo : w.heap.size ≤ rb ∧ ¬ H rb
  h : ∀ b, H b → b < wr.heap.size
theorem PM.new {w wr w' : World} {sb mb rb : Nat} {L T : List Tb} {H : Nat → Prop} (h : PM w wr sb mb rb L T H) (hb : Below wr.heap.size wr w') : PM w w' sb mb rb L T H := by
  obtain ⟨E, f, S, v, css, D, h1, h2, h3, h4⟩ := h.both
  exact ⟨⟨E, f, S, v, css, D, h1.new hb, h2.new hb, h3, h4⟩, h.below.trans (hb.mono h.below.size), h.lo, fun b hH => Nat.lt_of_lt_of_le (h.h b hH) hb.size⟩
theorem PM.hole {w wr w' : World} {sb mb rb : Nat} {L T : List Tb} {H : Nat → Prop} (h : PM w wr sb mb rb L T H) (hb : Below wr.heap.size wr w') : PM w w' sb mb rb L T (fun b => wr.heap.size ≤ b ∧ b < w'.heap.size) := by
  obtain ⟨E, f, S, v, css, D, h1, h2, h3, h4⟩ := h.both
  have hrb := World.lt_of_block h2.box
  exact ⟨⟨E, f, S, v, css, D, h1.new hb, h2.new hb, fun b hb => ⟨(h3 b hb).1, (h3 b hb).2.1, (h3 b hb).2.2.1, fun hh => by have := h1.lt b hb; omega⟩, fun b hb => ⟨(h4 b hb).1, fun hh => by have := h2.lt b hb; omega⟩⟩, h.below.trans (hb.mono h.below.size), ⟨h.lo.1, fun hh => by omega⟩, fun b hH => hH.2⟩
theorem PM.spoil {w wr w' : World} {sb mb rb : Nat} {L T : List Tb} {H R : Nat → Prop} (h : PM w wr sb mb rb L T H) (hk : Spares R wr w') (hR : ∀ b, R b → H b ∧ w.heap.size ≤ b) : PM w w' sb mb rb L T H := by
  obtain ⟨E, f, S, v, css, D, h1, h2, h3, h4⟩ := h.both
  exact ⟨⟨E, f, S, v, css, D, h1.keeps hk (fun b hb hr => (h3 b hb).2.2.2 (hR b hr).1), h2.keeps hk (fun b hb hr => (h4 b hb).2 (hR b hr).1) (fun hr => h.lo.2 (hR rb hr).1), h3, h4⟩, h.below.trans (hk.below (fun b hb => (hR b hb).2) h.below.size), h.lo, fun b hH => Nat.lt_of_lt_of_le (h.h b hH) hk.size⟩
theorem PM.all {w wr : World} {sb mb rb : Nat} {L T : List Tb} {H : Nat → Prop} (h : PM w wr sb mb rb L T H) : PM w wr sb mb rb L T (fun _ => False) := by
  obtain ⟨E, f, S, v, css, D, h1, h2, h3, h4⟩ := h.both
  exact ⟨⟨E, f, S, v, css, D, h1, h2, fun b hb => ⟨(h3 b hb).1, (h3 b hb).2.1, (h3 b hb).2.2.1, id⟩, fun b hb => ⟨(h4 b hb).1, id⟩⟩, h.below, ⟨h.lo.1, id⟩, fun b hH => hH.elim⟩
theorem PM.cat {w wr : World} {sb mb rb : Nat} {L T : List Tb} {H : Nat → Prop} (h : PM w wr sb mb rb L T H) : ∃ E f S, CatAt wr sb mb E f L S ∧ ∀ (w' : World) (E' : DataW Value) (f' : List UInt8 → Value) (L' : List Tb) (S' : Nat → Prop), CatAt w' sb mb E' f' L' S' → (∀ b, S' b → S b ∨ (wr.heap.size ≤ b ∧ b < w'.heap.size)) → Spares (fun k => k = mb) wr w' → PM w w' sb mb rb L' T H := by
  obtain ⟨E, f, S, v, css, D, h1, h2, h3, h4⟩ := h.both
  have hrb := World.lt_of_block h2.box
  have hm := h3 mb h1.inS.2
  have hw := h.below.size
  refine ⟨E, f, S, h1, fun w' E' f' L' S' hc hS hk => ⟨⟨E', f', S', v, css, D, hc, h2.keeps hk (fun b hb e => hm.2.1 (e ▸ hb)) (fun e => hm.2.2.1 e.symm), fun b hb => ?_, h4⟩, h.below.trans (hk.below (fun b hb => hb ▸ hm.1) h.below.size), h.lo, fun b hH => Nat.lt_of_lt_of_le (h.h b hH) hk.size⟩⟩
  rcases hS b hb with h5 | h5
  · exact h3 b h5
  · exact ⟨by omega, fun hd => by have := h2.lt b hd; omega, by omega, fun hH => by have := h.h b hH; omega⟩
theorem PM.doc {w wr : World} {sb mb rb : Nat} {L T : List Tb} {H : Nat → Prop} (h : PM w wr sb mb rb L T H) : ∃ v css D, DocAt wr rb v css T D ∧ ∀ (w' : World) (v' : Value) (css' : List (List Value)) (T' : List Tb) (D' : Nat → Prop), DocAt w' rb v' css' T' D' → (∀ b, D' b → D b ∨ (wr.heap.size ≤ b ∧ b < w'.heap.size)) → Spares (fun k => k = rb) wr w' → PM w w' sb mb rb L T' H := by
  obtain ⟨E, f, S, v, css, D, h1, h2, h3, h4⟩ := h.both
  have hw := h.below.size
  refine ⟨v, css, D, h2, fun w' v' css' T' D' hc hS hk => ⟨⟨E, f, S, v', css', D', h1.keeps hk (fun b hb e => (h3 b hb).2.2.1 e), hc, fun b hb => ⟨(h3 b hb).1, fun hd => ?_, (h3 b hb).2.2⟩, fun b hd => ?_⟩, h.below.trans (hk.below (fun b hb => by have := h.lo.1; omega) h.below.size), h.lo, fun b hH => Nat.lt_of_lt_of_le (h.h b hH) hk.size⟩⟩
  · rcases hS b hd with h5 | h5
    · exact (h3 b hb).2.1 h5
    · have := h1.lt b hb
      omega
  · rcases hS b hd with h5 | h5
    · exact h4 b h5
    · exact ⟨by omega, fun hH => by have := h.h b hH; omega⟩
def Wrt (w : World) (v : Value) : Prop := ∃ n xs, w.ownsRow 0 37 4 v n xs
theorem Wrt.set {w : World} {v : Value} (h : Wrt w v) (g j : Nat) (u : Value) : Wrt (w.setCell ⟨g, j, none⟩ u) v := by
  obtain ⟨n, xs, ho⟩ := h
  rcases ho.2 with ⟨rfl, rfl⟩ | ⟨g', cap, cur, rfl, hb, hg, h1, h2, h3, h4⟩
  · exact ⟨0, [], World.ownsRow_nil _ _ _ _⟩
  · by_cases e : g' = g
    · subst e
      exact ⟨n, _, (ho.stored j u).1⟩
    · refine ⟨n, xs, ho.1, .inr ⟨g', cap, cur, rfl, hb, ?_, h1, h2, h3, h4⟩⟩
      rw [heap_setCell_other w ⟨g, j, none⟩ g' u e]
      exact hg
def SpA (base top : Nat) (lv : Value) (css : List (List Value)) (w8 wr : World) : Prop :=
  Spares (fun b => base ≤ b ∧ b < top ∧ lv.ownBlock ≠ some b) w8 wr ∧ ∀ (j : Nat) (cs : List Value), css[j]? = some cs → ∃ (s : ByteArray) (aa : Option Addr) (nn cc : Nat) (p : Int), cs = [.string s, .slice aa nn cc, .int .i64 p] ∧ Wrt wr (.slice aa nn cc) ∧ ∀ b, (Value.slice aa nn cc).ownBlock = some b → base ≤ b ∧ b < top ∧ lv.ownBlock ≠ some b
theorem SpA.set {base top : Nat} {lv : Value} {css : List (List Value)} {w8 wr : World} (h : SpA base top lv css w8 wr) (g j : Nat) (u : Value) (hg : base ≤ g ∧ g < top ∧ lv.ownBlock ≠ some g) : SpA base top lv css w8 (wr.setCell ⟨g, j, none⟩ u) :=
  ⟨h.1.andThen ((Spares.refl (fun k => k = g) wr).own _ _) (fun i hi => .inl (hi ▸ hg)), fun k cs hk => by
    obtain ⟨s, aa, nn, cc, p, h1, h2, h3⟩ := h.2 k cs hk
    exact ⟨s, aa, nn, cc, p, h1, h2.set g j u, h3⟩⟩
theorem Wrt.at {w : World} {aa : Option Addr} {nn cc : Nat} (h : Wrt w (.slice aa nn cc)) : nn ≤ maxLen ∧ (0 < nn → ∃ g, aa = some ⟨g, 0, none⟩ ∧ (∀ i, w.frozen? ⟨g, i, none⟩ = false) ∧ ∀ i, i < nn * 4 → ∃ u, w.cell? ⟨g, i, none⟩ = some u) := by
  obtain ⟨n, xs, ho⟩ := h
  rcases ho.2 with ⟨e, h0⟩ | ⟨g, cap, cur, e, _, _, h1, h2, _⟩
  · simp only [Value.slice.injEq] at e
    obtain ⟨rfl, rfl, rfl⟩ := e
    exact ⟨Nat.zero_le _, fun h => by omega⟩
  · simp only [Value.slice.injEq] at e
    obtain ⟨rfl, rfl, rfl⟩ := e
    refine ⟨by omega, fun _ => ⟨g, rfl, fun i => ho.frozenAt i, fun i hi => ?_⟩⟩
    rw [ho.cellAt i hi]
    exact ⟨_, List.getElem?_eq_getElem (by rw [ho.1]; omega)⟩
end Go.Proofs.YtaaggohjmhifbaaGreatDoor
