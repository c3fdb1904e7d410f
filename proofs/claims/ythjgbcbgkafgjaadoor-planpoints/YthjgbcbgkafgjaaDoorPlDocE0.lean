/- The document's own Span: what the walks share (tools/pldoce.py). -/
import Derived.Test.YthjgbcbgkafgjaaDoorPlPS0
namespace Go.Proofs.YthjgbcbgkafgjaaDoor
open Go.RowKit Go.Shelf
set_option linter.unusedVariables false
set_option linter.unusedSimpArgs false
set_option maxRecDepth 20000

/-- What a call of the document's Span answers. -/
def YP (w : World) (s : Spn) (e : Ending) (w' : World) : Prop :=
  ∃ fv tv, e = .returned (.agg #[fv, tv, .bool s.en]) ∧ Says w' fv s.a ∧ Says w' tv s.b ∧ Below w.heap.size w w'

theorem YP.lift {w V : World} {s : Spn} {e : Ending} {w' : World} (hb : Below w.heap.size w V) (h : YP V s e w') : YP w s e w' := by
  obtain ⟨fv, tv, h1, h2, h3, h4⟩ := h
  exact ⟨fv, tv, h1, h2, h3, hb.trans (h4.mono hb.size)⟩

/-- What is said in bytes stands a store into a span's own row. -/
theorem says_setRow {W : World} {g : Nat} {v : Value} {bs : List UInt8} (h : Says W v bs) (hg : W.heap[g]? = some (.cells #[.slice none 0 0, .slice none 0 0, .bool false] 31 (0, 0))) (cs : Array Value) : Says (W.setRow g cs) v bs := by
  refine h.bytes ⟨by simp, fun ad n hc => ?_⟩
  have hne : ad.block ≠ g := fun e => by
    obtain ⟨b, o, sp⟩ := ad
    have e' : b = g := e
    subst e'
    have hsp := World.cell?_spot hc
    have hsp' : sp = none := hsp
    subst hsp'
    rw [cell_row _ _ _ _ _ _ hg] at hc
    match o, hc with
    | 0, hc => simp at hc
    | 1, hc => simp at hc
    | 2, hc => simp at hc
    | o + 3, hc => simp at hc
  exact (World.cell?_of_block (setRow_other _ _ _ _ hne)).trans hc

theorem Says.form' {w : World} {v : Value} {bs : List UInt8} (h : Says w v bs) : ∃ a n c, v = .slice a n c := by
  obtain ⟨a, c, rfl, _⟩ := id h
  exact ⟨_, _, _, rfl⟩

theorem below_setRow {W : World} {w : World} {g : Nat} (h : Below w.heap.size w W) (hg : w.heap.size ≤ g) (cs : Array Value) : Below w.heap.size w (W.setRow g cs) :=
  h.trans ((Spares.setRow (S := fun k => k = g) (Spares.refl _ W) (p := g) (.inl rfl) cs).below (fun i hi => by have h : i = g := hi; omega) h.size)

end Go.Proofs.YthjgbcbgkafgjaaDoor
