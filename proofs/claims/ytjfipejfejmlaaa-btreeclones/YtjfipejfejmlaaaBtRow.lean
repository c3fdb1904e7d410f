/- Rows of entries that are kept while others are written (stage 14). -/
import Derived.Test.YtjfipejfejmlaaaBtActs
namespace Go.Proofs.Ytjfipejfejmlaaa
open Go.RowKit Go.Shelf
set_option linter.unusedVariables false
set_option linter.unusedSimpArgs false
set_option maxRecDepth 20000

/-- A row of entries in blocks of its own, from B on, below M. -/
structure RowIn (B M : Nat) (W : World) (sv : Value) (xs : List EntV) : Prop where
  row : Rowed B W sv xs
  lt : ∀ g, sv.ownBlock = some g → g < M
  all : ∀ x ∈ xs, (∀ g, x.kv.ownBlock = some g → g < M) ∧ ∀ g, x.vv.ownBlock = some g → g < M

theorem RowIn.of {B : Nat} {W : World} {sv : Value} {xs : List EntV} (h : Rowed B W sv xs) : RowIn B W.heap.size W sv xs :=
  ⟨h, fun g hg => (h.row.lt g hg).2, fun x hx => ⟨fun g hg => ((h.cps x hx).1.lt g hg).2, fun g hg => ((h.cps x hx).2.lt g hg).2⟩⟩

theorem RowIn.keep {R : Nat → Prop} {B M : Nat} {W W' : World} {sv : Value} {xs : List EntV} (h : RowIn B M W sv xs) (hk : Spares R W W') (hd : ∀ i, B ≤ i → i < M → ¬ R i) : RowIn B M W' sv xs :=
  ⟨⟨hk.row h.row.row (fun g hg => hd g (h.row.row.lt g hg).1 (h.lt g hg)), fun x hx => ⟨hk.row (h.row.cps x hx).1 (fun g hg => hd g ((h.row.cps x hx).1.lt g hg).1 ((h.all x hx).1 g hg)), hk.row (h.row.cps x hx).2 (fun g hg => hd g ((h.row.cps x hx).2.lt g hg).1 ((h.all x hx).2 g hg))⟩, h.row.sep⟩, h.lt, h.all⟩

theorem RowIn.new {B M : Nat} {W W' : World} {sv : Value} {xs : List EntV} (h : RowIn B M W sv xs) (hb : Below W.heap.size W W') : RowIn B M W' sv xs := h.keep (R := fun _ => False) (Spares.of_new hb) (fun _ _ _ => id)

/-- Where a tree may lie: not between N and M. -/
def area (B N M : Nat) (i : Nat) : Prop := B ≤ i ∧ (i < N ∨ M ≤ i)

theorem says_nil (w : World) : Says w (.slice none 0 0) [] := ⟨none, 0, rfl, Nat.le_refl _, by unfold maxLen; omega, fun _ => rfl, fun h => absurd rfl h⟩

/-- Two rows that say the same. -/
theorem same_rows {w : World} {v u : Value} {xs ys : List EntV} (hE : Ents w.heap.size w v xs) (hF : Ents w.heap.size w u ys) (hxy : xs.map EntV.ent = ys.map EntV.ent) :
    Calls Try.prog 15 #[v, u] w fun e w' => e = .returned (.bool true) ∧ Below w.heap.size w w' :=
  (same_any _ _ v u xs ys w hE hF hxy).mono fun e w' ⟨q1, q, q2⟩ => ⟨q1, q2 ▸ below_drewN _ _ q⟩

/-- All entries of a tree. -/
theorem all_of {BT : (Nat → Prop) → World → Nat → List (List Ent) → Nat → Prop} (HA : Api BT) {A : Nat → Prop} {w : World} {tb : Nat} {L : List Ent} (h : BL BT A w tb L) (hn : L.length < 100000) :
    Calls Try.prog 14 #[.pointer (some ⟨tb, 0, none⟩), .agg #[.slice none 0 0, .slice none 0 0, .bool false]] w fun e w' => ∃ a c xs, e = .returned (.slice a xs.length c) ∧ Rowed w.heap.size w' (.slice a xs.length c) xs ∧ xs.map EntV.ent = L ∧ xs.length = L.length ∧ Below w.heap.size w w' := by
  refine (HA.rangeB _ _ [] [] false h (says_nil w) (says_nil w) hn).mono ?_
  rintro e w' ⟨sv, xs, rfl, q1, q2, q3⟩
  obtain ⟨⟨a, c, rfl⟩, _⟩ := row_form2 q1.row
  rw [rangeL_all] at q2
  exact ⟨a, c, xs, rfl, q1, q2, by rw [← q2, List.length_map], q3⟩
end Go.Proofs.Ytjfipejfejmlaaa
