/- The program's Meet: the contract (tools/plmeet.py). -/
import Derived.Test.YthjgbcbgkafgjaaDoorPlPM1
import Derived.Test.YthjgbcbgkafgjaaDoorPlPM2
namespace Go.Proofs.YthjgbcbgkafgjaaDoor
open Go.RowKit Go.Shelf
set_option linter.unusedVariables false
set_option linter.unusedSimpArgs false
set_option maxRecDepth 20000

/-- WHAT THE PROGRAM's Meet ANSWERS: in new memory. -/
theorem pmeet_any (f1 t1 f2 t2 : Value) (e1 e2 : Bool) (a1 b1 a2 b2 : List UInt8) (w : World) (h1 : Says w f1 a1) (h2 : Says w t1 b1) (h3 : Says w f2 a2) (h4 : Says w t2 b2)
    (l1 : a1.length ≤ 140737488351232) (l2 : b1.length ≤ 140737488351232) (l3 : a2.length ≤ 140737488351232) (l4 : b2.length ≤ 140737488351232) :
    Calls Tryd.prog 14 #[.agg #[f1, t1, .bool e1], .agg #[f2, t2, .bool e2]] w fun e w' => ∃ fv tv, e = .returned (.agg #[fv, tv, .bool (meetP ⟨a1, b1, e1⟩ ⟨a2, b2, e2⟩).en]) ∧ Copy w.heap.size w' fv (meetP ⟨a1, b1, e1⟩ ⟨a2, b2, e2⟩).a ∧ Copy w.heap.size w' tv (meetP ⟨a1, b1, e1⟩ ⟨a2, b2, e2⟩).b ∧ (∀ g, fv.ownBlock = some g → tv.ownBlock ≠ some g) ∧ Below w.heap.size w w' := by
  obtain ⟨x1, c1, rfl, _⟩ := id h1
  obtain ⟨x2, c2, rfl, _⟩ := id h2
  obtain ⟨x3, c3, rfl, _⟩ := id h3
  obtain ⟨x4, c4, rfl, _⟩ := id h4
  have q1 := cmp_pos a1 a2
  have q2 := cmp_neg b2 b1
  simp only [meetP, meetA, meetB]
  by_cases k1 : 0 < Lib.compareBytes a2 a1
  · rw [decide_eq_true k1] at q1
    simp only [← q1, if_true]
    cases e1
    · cases e2
      · exact pmeet_001 _ _ _ _ _ _ _ _ a1 b1 a2 b2 w h1 h2 h3 h4 l1 l2 l3 l4 _ rfl k1
      · exact pmeet_011 _ _ _ _ _ _ _ _ a1 b1 a2 b2 w h1 h2 h3 h4 l1 l2 l3 l4 _ rfl k1
    · cases e2
      · exact pmeet_101 _ _ _ _ _ _ _ _ a1 b1 a2 b2 w h1 h2 h3 h4 l1 l2 l3 l4 _ rfl k1
      · by_cases k2 : Lib.compareBytes b2 b1 < 0
        · rw [decide_eq_true k2] at q2
          simp only [if_true, ← q2]
          exact pmeet_1111 _ _ _ _ _ _ _ _ a1 b1 a2 b2 w h1 h2 h3 h4 l1 l2 l3 l4 _ rfl k1 _ rfl k2
        · rw [decide_eq_false k2] at q2
          simp only [if_true, ← q2]
          exact pmeet_1110 _ _ _ _ _ _ _ _ a1 b1 a2 b2 w h1 h2 h3 h4 l1 l2 l3 l4 _ rfl k1 _ rfl k2
  · rw [decide_eq_false k1] at q1
    simp only [← q1]
    cases e1
    · cases e2
      · exact pmeet_000 _ _ _ _ _ _ _ _ a1 b1 a2 b2 w h1 h2 h3 h4 l1 l2 l3 l4 _ rfl k1
      · exact pmeet_010 _ _ _ _ _ _ _ _ a1 b1 a2 b2 w h1 h2 h3 h4 l1 l2 l3 l4 _ rfl k1
    · cases e2
      · exact pmeet_100 _ _ _ _ _ _ _ _ a1 b1 a2 b2 w h1 h2 h3 h4 l1 l2 l3 l4 _ rfl k1
      · by_cases k2 : Lib.compareBytes b2 b1 < 0
        · rw [decide_eq_true k2] at q2
          simp only [if_true, ← q2]
          exact pmeet_1101 _ _ _ _ _ _ _ _ a1 b1 a2 b2 w h1 h2 h3 h4 l1 l2 l3 l4 _ rfl k1 _ rfl k2
        · rw [decide_eq_false k2] at q2
          simp only [if_true, ← q2]
          exact pmeet_1100 _ _ _ _ _ _ _ _ a1 b1 a2 b2 w h1 h2 h3 h4 l1 l2 l3 l4 _ rfl k1 _ rfl k2

end Go.Proofs.YthjgbcbgkafgjaaDoor
