/- What the walk of ProofSound leans on. -/
import Derived.Test.YtmafaioohiaenaaDoorClashF
import Derived.Test.YtmafaioohiaenaaDoorOwnL
namespace Go.Proofs.YtmafaioohiaenaaDoor
open Go.RowKit Go.Shelf
set_option linter.unusedVariables false
set_option linter.unusedSimpArgs false
set_option maxRecDepth 20000

theorem all_BZ (B tb : Nat) (T : Option Tri) (w : World) (ht : TreeB B w tb T) (hn : (Tri.entsO T).length < 1000000000) :
    Calls Tryd.prog 30 #[.pointer (some ⟨tb, 0, none⟩)] w fun e w' => ∃ sv xs, e = .returned sv ∧ Rowed w.heap.size w' sv xs ∧ xs.map EntV.ent = Tri.entsO T ∧ Below w.heap.size w w' := by
  obtain ⟨o, h1, rfl, h3⟩ := ht
  exact all_any tb o w h1 hn

/-- What the law's loop has found of a key among entries. -/
def gotZ (key : List UInt8) (l : List Ent) : Option (List UInt8) := l.foldl (fun a e => if e.1 = key then some e.2 else a) none

theorem gotZ_snoc (key : List UInt8) (l : List Ent) (e : Ent) : gotZ key (l ++ [e]) = if e.1 = key then some e.2 else gotZ key l := by
  simp [gotZ]

theorem gotZ_mem (key : List UInt8) : ∀ (l : List Ent) (a : Option (List UInt8)), l.foldl (fun a e => if e.1 = key then some e.2 else a) a = a ∧ (∀ e ∈ l, e.1 ≠ key) ∨ ∃ e ∈ l, e.1 = key ∧ l.foldl (fun a e => if e.1 = key then some e.2 else a) a = some e.2
  | [], a => .inl ⟨rfl, fun e he => by cases he⟩
  | e :: l, a => by
    simp only [List.foldl_cons]
    by_cases hk : e.1 = key
    · rw [if_pos hk]
      rcases gotZ_mem key l (some e.2) with ⟨h, h2⟩ | ⟨f, hf, h1, h2⟩
      · exact .inr ⟨e, by simp, hk, h⟩
      · exact .inr ⟨f, by simp [hf], h1, h2⟩
    · rw [if_neg hk]
      rcases gotZ_mem key l a with ⟨h, h2⟩ | ⟨f, hf, h1, h2⟩
      · exact .inl ⟨h, fun x hx => by rcases List.mem_cons.1 hx with rfl | hx; exact hk; exact h2 x hx⟩
      · exact .inr ⟨f, by simp [hf], h1, h2⟩

/-- All entries gone over: what the tree has. -/
theorem gotZ_look (key : List UInt8) (T : Option Tri) (h : Tri.WFO T) : gotZ key (Tri.entsO T) = look T key := by
  cases T with
  | none => rfl
  | some t =>
    have hlk : look (some t) key = if (t.near key).1 = key then some (t.near key).2 else none := rfl
    rw [hlk]
    show gotZ key t.ents = _
    rcases gotZ_mem key t.ents none with ⟨h1, h2⟩ | ⟨e, he, h1, h2⟩
    · rw [if_neg (h2 _ (Tri.near_mem t key))]
      exact h1
    · have hn := Tri.near_of_mem t h e he
      rw [h1] at hn
      rw [hn, if_pos h1]
      exact h2

theorem textsT_le : ∀ (t : Tri), ∀ x ∈ textsT t, x.length ≤ 1099511627776
  | .leaf k v, x, hx => by simp [textsT] at hx; subst hx; exact textOf_length _ _
  | .fork p l r, x, hx => by
    simp only [textsT, List.mem_append, List.mem_cons, List.not_mem_nil, or_false] at hx
    rcases hx with (hx | hx) | rfl
    · exact textsT_le l x hx
    · exact textsT_le r x hx
    · exact textOf_length _ _

theorem textsO_le (T : Option Tri) : ∀ x ∈ textsO T, x.length ≤ 1099511627776 := by
  cases T with
  | none => intro x hx; simp [textsO] at hx; subst hx; exact textOf_length _ _
  | some t => exact textsT_le t

theorem upZ_le : ∀ (r : List Zst) (e : List UInt8), e.length ≤ 1099511627776 → ∀ x ∈ upZ e r, x.length ≤ 1099511627776
  | [], e, he, x, hx => by simp [upZ] at hx; subst hx; exact he
  | s :: r, e, he, x, hx => by
    simp only [upZ, List.mem_cons] at hx
    rcases hx with rfl | hx
    · exact he
    · exact upZ_le r _ (stepZ_le _ _) x hx

theorem ptexts_le (p : Prf) : ∀ x ∈ p.texts, x.length ≤ 1099511627776 := by
  unfold Prf.texts
  split
  · exact upZ_le _ _ (endZ_le p)
  · intro x hx; cases hx

theorem textsO_length (T : Option Tri) : (textsO T).length ≤ 2 * (Tri.entsO T).length + 1 := by
  cases T with
  | none => simp [textsO]
  | some t => have := textsT_length t; simp only [textsO, Tri.entsO]; omega

/-- The document's Texts of all entries. -/
theorem textsO_any (T : Option Tri) (hT : Tri.WFO T) (v : Value) (xs : List EntV) (w : World) (hE : Ents w.heap.size w v xs) (hx : xs.map EntV.ent = Tri.entsO T) (hn : xs.length < 1000000) :
    Calls Tryd.prog 31 #[v] w fun e w' => ∃ rv, e = .returned (.tuple #[.agg (sumV (rootO T)), rv]) ∧ TxRow w.heap.size w' rv (textsO T) ∧ Below w.heap.size w w' := by
  cases T with
  | none =>
    have h0 : xs = [] := by simpa [Tri.entsO] using hx
    subst h0
    obtain ⟨a, c, rfl, _⟩ := hE
    exact texts0_any a c w
  | some t => exact texts_any t hT v xs w hE hx hn

/-- Texts of both, in one row. -/
theorem both_lists {B : Nat} {w w' : World} {rv rv' qv : Value} {vs us : List Value} {X Y : List (List UInt8)} (h : TxV B w rv vs X) (ho : w.ownsRow B 24 1 qv Y.length us) (hr : RowsOwn w B us Y) (hg : w.grownBy w' rv.ownBlock)
    (hA : w'.ownsRow B 24 1 rv' (X.length + Y.length) (vs ++ us)) : Lists w'.heap.size w' rv' (X ++ Y) := by
  have hV := txv_app h hr.len (fun j u r hu hrr => (hr.own j u r hu hrr).1) hg hA
  exact lists_of_owns hV.1 hV.2.1 (fun j u r hu hrr => (shows_of_owns (hV.2.2 j u r hu hrr)).2)
end Go.Proofs.YtmafaioohiaenaaDoor
