/- A slice of acts, as it lies in memory; contract of the law's 'made'. -/
import Derived.Test.YtmafaioohiaenaaDoorWhole
import Derived.Test.YtmafaioohiaenaaDoorDeleteF
namespace Go.Proofs.YtmafaioohiaenaaDoor
open Go.RowKit
set_option linter.unusedVariables false
set_option maxRecDepth 20000

def dropT (T : Option Tri) (key : List UInt8) : Option Tri :=
  match T with
  | none => none
  | some t => if (t.near key).1 = key then t.cut key else some t

theorem put_few (T : Option Tri) (e : Ent) : (Tri.put T e).ents.length ≤ (Tri.entsO T).length + 1 := by
  cases T with
  | none => simp [Tri.put, Tri.ents, Tri.entsO]
  | some t =>
    simp only [Tri.put, Tri.entsO]
    split
    · rw [Tri.set_length]; omega
    · rw [Tri.grow_length]; omega

theorem drop_few (T : Option Tri) (hT : Tri.WFO T) (key : List UInt8) : (Tri.entsO (dropT T key)).length ≤ (Tri.entsO T).length := by
  cases T with
  | none => simp [dropT]
  | some t =>
    simp only [dropT]
    split
    · rename_i h
      have := (Tri.cut_spec t hT key h).2.2
      simp only [Tri.entsO] at this ⊢
      omega
    · exact Nat.le_refl _

/-- One act: Do, K, V (values, and what they show). -/
structure ActV where
  d : Int
  kv : Value
  vv : Value
  k : List UInt8
  v : List UInt8

/-- v IS A SLICE OF THE ACTS xs, below block B. -/
def Acts (B : Nat) (w : World) (v : Value) (xs : List ActV) : Prop :=
  ∃ a c, v = .slice a xs.length c ∧ xs.length ≤ c ∧ c ≤ maxLen ∧ (xs ≠ [] → ∃ b off, a = some ⟨b, off, none⟩ ∧ b < B ∧ ∀ j x, xs[j]? = some x →
    w.cell? ⟨b, off + j * 3, none⟩ = some (.int .i64 x.d) ∧ w.cell? ⟨b, off + j * 3 + 1, none⟩ = some x.kv ∧ w.cell? ⟨b, off + j * 3 + 2, none⟩ = some x.vv ∧
    (-9223372036854775808 ≤ x.d ∧ x.d ≤ 9223372036854775807) ∧ Shows B w x.kv x.k ∧ Shows B w x.vv x.v)

theorem Acts.below {B : Nat} {w w' : World} {v : Value} {xs : List ActV} (h : Acts B w v xs) (hb : Below B w w') : Acts B w' v xs := by
  obtain ⟨a, c, hv, h1, h2, h3⟩ := h
  refine ⟨a, c, hv, h1, h2, fun hne => ?_⟩
  obtain ⟨b, off, ha, hlt, hc⟩ := h3 hne
  refine ⟨b, off, ha, hlt, fun j x hx => ?_⟩
  obtain ⟨c0, c1, c2, i0, s1, s2⟩ := hc j x hx
  exact ⟨by rw [hb.cell (p := ⟨b, off + j * 3, none⟩) hlt]; exact c0, by rw [hb.cell (p := ⟨b, off + j * 3 + 1, none⟩) hlt]; exact c1, by rw [hb.cell (p := ⟨b, off + j * 3 + 2, none⟩) hlt]; exact c2, i0, s1.below hb, s2.below hb⟩

theorem Acts.at {B : Nat} {w : World} {a : Option Addr} {l c : Nat} {xs : List ActV} (h : Acts B w (.slice a l c) xs) (k : Nat) (hk : k < xs.length) :
    ∃ b off d ka kc va vc kb vb, a = some ⟨b, off, none⟩ ∧ b < B ∧
    w.cell? ⟨b, off + k * 3, none⟩ = some (.int .i64 d) ∧ w.cell? ⟨b, off + k * 3 + 1, none⟩ = some (.slice ka kb.length kc) ∧ w.cell? ⟨b, off + k * 3 + 2, none⟩ = some (.slice va vb.length vc) ∧
    (-9223372036854775808 ≤ d ∧ d ≤ 9223372036854775807) ∧ Shows B w (.slice ka kb.length kc) kb ∧ Shows B w (.slice va vb.length vc) vb := by
  obtain ⟨a', c', hv, h1, h2, h3⟩ := h
  simp only [Value.slice.injEq] at hv
  obtain ⟨rfl, rfl, rfl⟩ := hv
  obtain ⟨b, off, rfl, hlt, hc⟩ := h3 (by intro e; rw [e] at hk; simp at hk)
  obtain ⟨x, hx⟩ : ∃ x, xs[k]? = some x := ⟨_, List.getElem?_eq_getElem hk⟩
  obtain ⟨c0, c1, c2, i0, s1, s2⟩ := hc k x hx
  obtain ⟨ka, kc, ek, _⟩ := id s1
  obtain ⟨va, vc, ev, _⟩ := id s2
  rw [ek] at c1 s1
  rw [ev] at c2 s2
  exact ⟨b, off, x.d, ka, kc, va, vc, x.k, x.v, rfl, hlt, c0, c1, c2, i0, s1, s2⟩

end Go.Proofs.YtmafaioohiaenaaDoor
