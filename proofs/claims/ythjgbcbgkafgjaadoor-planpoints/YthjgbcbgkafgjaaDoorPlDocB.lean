/- Contract of the document's own Meet (stage 15); tools/pldoc.py. -/
import Derived.Test.YthjgbcbgkafgjaaDoorPlDocA
namespace Go.Proofs.YthjgbcbgkafgjaaDoor
open Go.RowKit Go.Shelf
set_option linter.unusedVariables false
set_option linter.unusedSimpArgs false
set_option maxRecDepth 20000

theorem setCell_farC (g h : Nat) (hne : g ≠ h) (W : World) (i j : Nat) (v : Value) : (W.setCell ⟨g, i, none⟩ v).cell? ⟨h, j, none⟩ = W.cell? ⟨h, j, none⟩ :=
  World.cell?_of_block (Below.heap_setCell W ⟨g, i, none⟩ v h (fun e => hne e.symm))

/-- A block of three, under one that is newer; its cells are stored one after the other. -/
theorem res_facts {W : World} {g : Nat} {a b c : Value} {t : TypeId} (h : W.heap[g]? = some (.cells #[a, b, c] t (0, 0))) :
    (∀ X, (W.alloc X).cell? ⟨g, 0, none⟩ = some a) ∧ (∀ X, (W.alloc X).frozen? ⟨g, 0, none⟩ = false) ∧ (∀ u X, ((W.setCell ⟨g, 0, none⟩ u).alloc X).cell? ⟨g, 1, none⟩ = some b) ∧ (∀ u X, ((W.setCell ⟨g, 0, none⟩ u).alloc X).frozen? ⟨g, 1, none⟩ = false) ∧
      (∀ u v X, (((W.setCell ⟨g, 0, none⟩ u).setCell ⟨g, 1, none⟩ v).alloc X).cell? ⟨g, 2, none⟩ = some c) ∧ (∀ u v X, (((W.setCell ⟨g, 0, none⟩ u).setCell ⟨g, 1, none⟩ v).alloc X).frozen? ⟨g, 2, none⟩ = false) ∧
      (∀ u v x X, ((((W.setCell ⟨g, 0, none⟩ u).setCell ⟨g, 1, none⟩ v).setCell ⟨g, 2, none⟩ x).alloc X).heap[g]? = some (.cells #[u, v, x] t (0, 0))) := by
  have hl := (Array.getElem?_eq_some_iff.1 h).1
  have h1 : ∀ u, (W.setCell ⟨g, 0, none⟩ u).heap[g]? = some (.cells #[u, b, c] t (0, 0)) := fun u => by
    have := heap_setCell_same W g 0 _ _ u h
    simpa using this
  have h2 : ∀ u v, ((W.setCell ⟨g, 0, none⟩ u).setCell ⟨g, 1, none⟩ v).heap[g]? = some (.cells #[u, v, c] t (0, 0)) := fun u v => by
    have := heap_setCell_same _ g 1 _ _ v (h1 u)
    simpa using this
  have h3 : ∀ u v x, (((W.setCell ⟨g, 0, none⟩ u).setCell ⟨g, 1, none⟩ v).setCell ⟨g, 2, none⟩ x).heap[g]? = some (.cells #[u, v, x] t (0, 0)) := fun u v x => by
    have := heap_setCell_same _ g 2 _ _ x (h2 u v)
    simpa using this
  have up : ∀ (V : World) (cs : Array Value) (X : Obj), V.heap[g]? = some (.cells cs t (0, 0)) → (V.alloc X).heap[g]? = some (.cells cs t (0, 0)) := fun V cs X hV => (Below.heap_alloc _ _ _ (Array.getElem?_eq_some_iff.1 hV).1).trans hV
  refine ⟨fun X => ?_, fun X => ?_, fun u X => ?_, fun u X => ?_, fun u v X => ?_, fun u v X => ?_, fun u v x X => up _ _ _ (h3 u v x)⟩
  · rw [cell_row _ _ _ _ _ _ (up _ _ X h)]; rfl
  · simp [World.frozen?, up _ _ X h]
  · rw [cell_row _ _ _ _ _ _ (up _ _ X (h1 u))]; rfl
  · simp [World.frozen?, up _ _ X (h1 u)]
  · rw [cell_row _ _ _ _ _ _ (up _ _ X (h2 u v))]; rfl
  · simp [World.frozen?, up _ _ X (h2 u v)]

theorem old_cells {W : World} {g : Nat} {a b c : Value} {t : TypeId} (h : W.heap[g]? = some (.cells #[a, b, c] t (0, 0))) : ∀ X, (W.alloc X).cell? ⟨g, 0, none⟩ = some a ∧ (W.alloc X).cell? ⟨g, 1, none⟩ = some b ∧ (W.alloc X).cell? ⟨g, 2, none⟩ = some c := fun X => by
  have hV : (W.alloc X).heap[g]? = some (.cells #[a, b, c] t (0, 0)) := (Below.heap_alloc _ _ _ (Array.getElem?_eq_some_iff.1 h).1).trans h
  exact ⟨by rw [cell_row _ _ _ _ _ _ hV]; rfl, by rw [cell_row _ _ _ _ _ _ hV]; rfl, by rw [cell_row _ _ _ _ _ _ hV]; rfl⟩

set_option maxHeartbeats 1000000 in
theorem ymeet_0000 (x1 x2 x3 x4 : Option Addr) (c1 c2 c3 c4 : Nat) (a1 b1 a2 b2 : List UInt8) (w : World) (h1 : Says w (.slice x1 a1.length c1) a1) (h2 : Says w (.slice x2 b1.length c2) b1) (h3 : Says w (.slice x3 a2.length c3) a2) (h4 : Says w (.slice x4 b2.length c4) b2)
    (l e : Bool) (q0 : Op.bytesLess (str8 a2).toList (str8 a1).toList = l) (q1 : ((str8 a2).toList == (str8 a1).toList) = e) (q3 : (l || e) = true) (q2 : Op.bytesLess (str8 b2).toList (str8 b1).toList = false) :
    Calls Tryd.prog 15 #[.agg #[.slice x1 a1.length c1, .slice x2 b1.length c2, .bool false], .agg #[.slice x3 a2.length c3, .slice x4 b2.length c4, .bool false]] w fun e w' => ∃ fv tv, e = .returned (.agg #[fv, tv, .bool false]) ∧ Says w' fv a1 ∧ Says w' tv [] ∧ Below w.heap.size w w' := by
  obtain ⟨z0, z1, z2, hb3, z3⟩ := alloc3 w (.cells #[.slice x1 a1.length c1, .slice x2 b1.length c2, .bool false] 31) (.cells #[.slice x3 a2.length c3, .slice x4 b2.length c4, .bool false] 31) (.cells #[.slice none 0 0, .slice none 0 0, .bool false] 31)
  generalize hW3 : ((w.alloc (.cells #[.slice x1 a1.length c1, .slice x2 b1.length c2, .bool false] 31)).alloc (.cells #[.slice x3 a2.length c3, .slice x4 b2.length c4, .bool false] 31)).alloc (.cells #[.slice none 0 0, .slice none 0 0, .bool false] 31) = W3 at *
  have z4 : W3.heap.size = w.heap.size + 1 + 1 + 1 := z3
  have p0 : W3.cell? ⟨w.heap.size, 0, none⟩ = some (.slice x1 a1.length c1) := by rw [cell_row _ _ _ _ _ _ z0]; rfl
  have p1 : W3.cell? ⟨w.heap.size, 2, none⟩ = some (.bool false) := by rw [cell_row _ _ _ _ _ _ z0]; rfl
  have p2 : W3.cell? ⟨w.heap.size + 1, 2, none⟩ = some (.bool false) := by rw [cell_row _ _ _ _ _ _ z1]; rfl
  have y0 := fun X => (old_cells z0 X).1
  have y1 := fun X => (old_cells z0 X).2.1
  have y2 := fun X => (old_cells z0 X).2.2
  have y3 := fun X => (old_cells z1 X).1
  have y4 := fun X => (old_cells z1 X).2.1
  have y5 := fun X => (old_cells z1 X).2.2
  obtain ⟨g1, g2, g3, g4, g5, g6, g7⟩ := res_facts z2
  have hbX : ∀ X, Below w.heap.size w (W3.alloc X) := fun X => hb3.alloc (by omega) _
  have u1 := fun X => str4 (h1.new (hbX X))
  have u2 := fun X => str4 (h2.new (hbX X))
  have u3 := fun X => str4 (h3.new (hbX X))
  have u4 := fun X => str4 (h4.new (hbX X))
  have hfin : ∀ (u v x : Value) (X : Obj), Below w.heap.size w ((((W3.setCell ⟨w.heap.size + 1 + 1, 0, none⟩ u).setCell ⟨w.heap.size + 1 + 1, 1, none⟩ v).setCell ⟨w.heap.size + 1 + 1, 2, none⟩ x).alloc X) := fun u v x X => (((hb3.setCell (by show _ ≤ w.heap.size + 1 + 1; omega) u).setCell (by show _ ≤ w.heap.size + 1 + 1; omega) v).setCell (by show _ ≤ w.heap.size + 1 + 1; omega) x).alloc (by simp [World.setCell]; omega) X
  have HG := hid g7
  have HFIN := hid hfin
  have H1 := hid h1
  have H2 := hid h2
  have H3 := hid h3
  have H4 := hid h4
  clear h1 h2 h3 h4 hb3 hbX z0 z1 z2 z3 g7 hfin
  generalize str8 a1 = S1 at *
  generalize str8 b1 = S2 at *
  generalize str8 a2 = S3 at *
  generalize str8 b2 = S4 at *
  go_enter Tryd.func15, Tryd.ntmps15
  go_wp2
  refine bodyPost_ret (v := .agg #[.slice x1 a1.length c1, .slice none 0 0, .bool false]) (results_cell_row (p := 4) (ty := 31) rfl _ _ (w.heap.size + 1 + 1) 31 _ (0, 0) _ rfl (HG.out _ _ _ _) Tryd.underlying31 rfl Tryd.infoSpan) rfl ⟨_, _, rfl, H1.out.new (HFIN.out _ _ _ _), says_nil _, HFIN.out _ _ _ _⟩

set_option maxHeartbeats 1000000 in
theorem ymeet_0001 (x1 x2 x3 x4 : Option Addr) (c1 c2 c3 c4 : Nat) (a1 b1 a2 b2 : List UInt8) (w : World) (h1 : Says w (.slice x1 a1.length c1) a1) (h2 : Says w (.slice x2 b1.length c2) b1) (h3 : Says w (.slice x3 a2.length c3) a2) (h4 : Says w (.slice x4 b2.length c4) b2)
    (l e : Bool) (q0 : Op.bytesLess (str8 a2).toList (str8 a1).toList = l) (q1 : ((str8 a2).toList == (str8 a1).toList) = e) (q3 : (l || e) = true) (q2 : Op.bytesLess (str8 b2).toList (str8 b1).toList = true) :
    Calls Tryd.prog 15 #[.agg #[.slice x1 a1.length c1, .slice x2 b1.length c2, .bool false], .agg #[.slice x3 a2.length c3, .slice x4 b2.length c4, .bool false]] w fun e w' => ∃ fv tv, e = .returned (.agg #[fv, tv, .bool false]) ∧ Says w' fv a1 ∧ Says w' tv [] ∧ Below w.heap.size w w' := by
  obtain ⟨z0, z1, z2, hb3, z3⟩ := alloc3 w (.cells #[.slice x1 a1.length c1, .slice x2 b1.length c2, .bool false] 31) (.cells #[.slice x3 a2.length c3, .slice x4 b2.length c4, .bool false] 31) (.cells #[.slice none 0 0, .slice none 0 0, .bool false] 31)
  generalize hW3 : ((w.alloc (.cells #[.slice x1 a1.length c1, .slice x2 b1.length c2, .bool false] 31)).alloc (.cells #[.slice x3 a2.length c3, .slice x4 b2.length c4, .bool false] 31)).alloc (.cells #[.slice none 0 0, .slice none 0 0, .bool false] 31) = W3 at *
  have z4 : W3.heap.size = w.heap.size + 1 + 1 + 1 := z3
  have p0 : W3.cell? ⟨w.heap.size, 0, none⟩ = some (.slice x1 a1.length c1) := by rw [cell_row _ _ _ _ _ _ z0]; rfl
  have p1 : W3.cell? ⟨w.heap.size, 2, none⟩ = some (.bool false) := by rw [cell_row _ _ _ _ _ _ z0]; rfl
  have p2 : W3.cell? ⟨w.heap.size + 1, 2, none⟩ = some (.bool false) := by rw [cell_row _ _ _ _ _ _ z1]; rfl
  have y0 := fun X => (old_cells z0 X).1
  have y1 := fun X => (old_cells z0 X).2.1
  have y2 := fun X => (old_cells z0 X).2.2
  have y3 := fun X => (old_cells z1 X).1
  have y4 := fun X => (old_cells z1 X).2.1
  have y5 := fun X => (old_cells z1 X).2.2
  obtain ⟨g1, g2, g3, g4, g5, g6, g7⟩ := res_facts z2
  have hbX : ∀ X, Below w.heap.size w (W3.alloc X) := fun X => hb3.alloc (by omega) _
  have u1 := fun X => str4 (h1.new (hbX X))
  have u2 := fun X => str4 (h2.new (hbX X))
  have u3 := fun X => str4 (h3.new (hbX X))
  have u4 := fun X => str4 (h4.new (hbX X))
  have hfin : ∀ (u v x : Value) (X : Obj), Below w.heap.size w ((((W3.setCell ⟨w.heap.size + 1 + 1, 0, none⟩ u).setCell ⟨w.heap.size + 1 + 1, 1, none⟩ v).setCell ⟨w.heap.size + 1 + 1, 2, none⟩ x).alloc X) := fun u v x X => (((hb3.setCell (by show _ ≤ w.heap.size + 1 + 1; omega) u).setCell (by show _ ≤ w.heap.size + 1 + 1; omega) v).setCell (by show _ ≤ w.heap.size + 1 + 1; omega) x).alloc (by simp [World.setCell]; omega) X
  have HG := hid g7
  have HFIN := hid hfin
  have H1 := hid h1
  have H2 := hid h2
  have H3 := hid h3
  have H4 := hid h4
  clear h1 h2 h3 h4 hb3 hbX z0 z1 z2 z3 g7 hfin
  generalize str8 a1 = S1 at *
  generalize str8 b1 = S2 at *
  generalize str8 a2 = S3 at *
  generalize str8 b2 = S4 at *
  go_enter Tryd.func15, Tryd.ntmps15
  go_wp2
  refine bodyPost_ret (v := .agg #[.slice x1 a1.length c1, .slice none 0 0, .bool false]) (results_cell_row (p := 4) (ty := 31) rfl _ _ (w.heap.size + 1 + 1) 31 _ (0, 0) _ rfl (HG.out _ _ _ _) Tryd.underlying31 rfl Tryd.infoSpan) rfl ⟨_, _, rfl, H1.out.new (HFIN.out _ _ _ _), says_nil _, HFIN.out _ _ _ _⟩

set_option maxHeartbeats 1000000 in
theorem ymeet_0010 (x1 x2 x3 x4 : Option Addr) (c1 c2 c3 c4 : Nat) (a1 b1 a2 b2 : List UInt8) (w : World) (h1 : Says w (.slice x1 a1.length c1) a1) (h2 : Says w (.slice x2 b1.length c2) b1) (h3 : Says w (.slice x3 a2.length c3) a2) (h4 : Says w (.slice x4 b2.length c4) b2)
    (l e : Bool) (q0 : Op.bytesLess (str8 a2).toList (str8 a1).toList = l) (q1 : ((str8 a2).toList == (str8 a1).toList) = e) (q3 : (l || e) = true) (q2 : Op.bytesLess (str8 b2).toList (str8 b1).toList = false) :
    Calls Tryd.prog 15 #[.agg #[.slice x1 a1.length c1, .slice x2 b1.length c2, .bool false], .agg #[.slice x3 a2.length c3, .slice x4 b2.length c4, .bool true]] w fun e w' => ∃ fv tv, e = .returned (.agg #[fv, tv, .bool true]) ∧ Says w' fv a1 ∧ Says w' tv b2 ∧ Below w.heap.size w w' := by
  obtain ⟨z0, z1, z2, hb3, z3⟩ := alloc3 w (.cells #[.slice x1 a1.length c1, .slice x2 b1.length c2, .bool false] 31) (.cells #[.slice x3 a2.length c3, .slice x4 b2.length c4, .bool true] 31) (.cells #[.slice none 0 0, .slice none 0 0, .bool false] 31)
  generalize hW3 : ((w.alloc (.cells #[.slice x1 a1.length c1, .slice x2 b1.length c2, .bool false] 31)).alloc (.cells #[.slice x3 a2.length c3, .slice x4 b2.length c4, .bool true] 31)).alloc (.cells #[.slice none 0 0, .slice none 0 0, .bool false] 31) = W3 at *
  have z4 : W3.heap.size = w.heap.size + 1 + 1 + 1 := z3
  have p0 : W3.cell? ⟨w.heap.size, 0, none⟩ = some (.slice x1 a1.length c1) := by rw [cell_row _ _ _ _ _ _ z0]; rfl
  have p1 : W3.cell? ⟨w.heap.size, 2, none⟩ = some (.bool false) := by rw [cell_row _ _ _ _ _ _ z0]; rfl
  have p2 : W3.cell? ⟨w.heap.size + 1, 2, none⟩ = some (.bool true) := by rw [cell_row _ _ _ _ _ _ z1]; rfl
  have y0 := fun X => (old_cells z0 X).1
  have y1 := fun X => (old_cells z0 X).2.1
  have y2 := fun X => (old_cells z0 X).2.2
  have y3 := fun X => (old_cells z1 X).1
  have y4 := fun X => (old_cells z1 X).2.1
  have y5 := fun X => (old_cells z1 X).2.2
  obtain ⟨g1, g2, g3, g4, g5, g6, g7⟩ := res_facts z2
  have hbX : ∀ X, Below w.heap.size w (W3.alloc X) := fun X => hb3.alloc (by omega) _
  have u1 := fun X => str4 (h1.new (hbX X))
  have u2 := fun X => str4 (h2.new (hbX X))
  have u3 := fun X => str4 (h3.new (hbX X))
  have u4 := fun X => str4 (h4.new (hbX X))
  have hfin : ∀ (u v x : Value) (X : Obj), Below w.heap.size w ((((W3.setCell ⟨w.heap.size + 1 + 1, 0, none⟩ u).setCell ⟨w.heap.size + 1 + 1, 1, none⟩ v).setCell ⟨w.heap.size + 1 + 1, 2, none⟩ x).alloc X) := fun u v x X => (((hb3.setCell (by show _ ≤ w.heap.size + 1 + 1; omega) u).setCell (by show _ ≤ w.heap.size + 1 + 1; omega) v).setCell (by show _ ≤ w.heap.size + 1 + 1; omega) x).alloc (by simp [World.setCell]; omega) X
  have HG := hid g7
  have HFIN := hid hfin
  have H1 := hid h1
  have H2 := hid h2
  have H3 := hid h3
  have H4 := hid h4
  clear h1 h2 h3 h4 hb3 hbX z0 z1 z2 z3 g7 hfin
  generalize str8 a1 = S1 at *
  generalize str8 b1 = S2 at *
  generalize str8 a2 = S3 at *
  generalize str8 b2 = S4 at *
  go_enter Tryd.func15, Tryd.ntmps15
  go_wp2
  refine bodyPost_ret (v := .agg #[.slice x1 a1.length c1, .slice x4 b2.length c4, .bool true]) (results_cell_row (p := 4) (ty := 31) rfl _ _ (w.heap.size + 1 + 1) 31 _ (0, 0) _ rfl (HG.out _ _ _ _) Tryd.underlying31 rfl Tryd.infoSpan) rfl ⟨_, _, rfl, H1.out.new (HFIN.out _ _ _ _), H4.out.new (HFIN.out _ _ _ _), HFIN.out _ _ _ _⟩

set_option maxHeartbeats 1000000 in
theorem ymeet_0011 (x1 x2 x3 x4 : Option Addr) (c1 c2 c3 c4 : Nat) (a1 b1 a2 b2 : List UInt8) (w : World) (h1 : Says w (.slice x1 a1.length c1) a1) (h2 : Says w (.slice x2 b1.length c2) b1) (h3 : Says w (.slice x3 a2.length c3) a2) (h4 : Says w (.slice x4 b2.length c4) b2)
    (l e : Bool) (q0 : Op.bytesLess (str8 a2).toList (str8 a1).toList = l) (q1 : ((str8 a2).toList == (str8 a1).toList) = e) (q3 : (l || e) = true) (q2 : Op.bytesLess (str8 b2).toList (str8 b1).toList = true) :
    Calls Tryd.prog 15 #[.agg #[.slice x1 a1.length c1, .slice x2 b1.length c2, .bool false], .agg #[.slice x3 a2.length c3, .slice x4 b2.length c4, .bool true]] w fun e w' => ∃ fv tv, e = .returned (.agg #[fv, tv, .bool true]) ∧ Says w' fv a1 ∧ Says w' tv b2 ∧ Below w.heap.size w w' := by
  obtain ⟨z0, z1, z2, hb3, z3⟩ := alloc3 w (.cells #[.slice x1 a1.length c1, .slice x2 b1.length c2, .bool false] 31) (.cells #[.slice x3 a2.length c3, .slice x4 b2.length c4, .bool true] 31) (.cells #[.slice none 0 0, .slice none 0 0, .bool false] 31)
  generalize hW3 : ((w.alloc (.cells #[.slice x1 a1.length c1, .slice x2 b1.length c2, .bool false] 31)).alloc (.cells #[.slice x3 a2.length c3, .slice x4 b2.length c4, .bool true] 31)).alloc (.cells #[.slice none 0 0, .slice none 0 0, .bool false] 31) = W3 at *
  have z4 : W3.heap.size = w.heap.size + 1 + 1 + 1 := z3
  have p0 : W3.cell? ⟨w.heap.size, 0, none⟩ = some (.slice x1 a1.length c1) := by rw [cell_row _ _ _ _ _ _ z0]; rfl
  have p1 : W3.cell? ⟨w.heap.size, 2, none⟩ = some (.bool false) := by rw [cell_row _ _ _ _ _ _ z0]; rfl
  have p2 : W3.cell? ⟨w.heap.size + 1, 2, none⟩ = some (.bool true) := by rw [cell_row _ _ _ _ _ _ z1]; rfl
  have y0 := fun X => (old_cells z0 X).1
  have y1 := fun X => (old_cells z0 X).2.1
  have y2 := fun X => (old_cells z0 X).2.2
  have y3 := fun X => (old_cells z1 X).1
  have y4 := fun X => (old_cells z1 X).2.1
  have y5 := fun X => (old_cells z1 X).2.2
  obtain ⟨g1, g2, g3, g4, g5, g6, g7⟩ := res_facts z2
  have hbX : ∀ X, Below w.heap.size w (W3.alloc X) := fun X => hb3.alloc (by omega) _
  have u1 := fun X => str4 (h1.new (hbX X))
  have u2 := fun X => str4 (h2.new (hbX X))
  have u3 := fun X => str4 (h3.new (hbX X))
  have u4 := fun X => str4 (h4.new (hbX X))
  have hfin : ∀ (u v x : Value) (X : Obj), Below w.heap.size w ((((W3.setCell ⟨w.heap.size + 1 + 1, 0, none⟩ u).setCell ⟨w.heap.size + 1 + 1, 1, none⟩ v).setCell ⟨w.heap.size + 1 + 1, 2, none⟩ x).alloc X) := fun u v x X => (((hb3.setCell (by show _ ≤ w.heap.size + 1 + 1; omega) u).setCell (by show _ ≤ w.heap.size + 1 + 1; omega) v).setCell (by show _ ≤ w.heap.size + 1 + 1; omega) x).alloc (by simp [World.setCell]; omega) X
  have HG := hid g7
  have HFIN := hid hfin
  have H1 := hid h1
  have H2 := hid h2
  have H3 := hid h3
  have H4 := hid h4
  clear h1 h2 h3 h4 hb3 hbX z0 z1 z2 z3 g7 hfin
  generalize str8 a1 = S1 at *
  generalize str8 b1 = S2 at *
  generalize str8 a2 = S3 at *
  generalize str8 b2 = S4 at *
  go_enter Tryd.func15, Tryd.ntmps15
  go_wp2
  refine bodyPost_ret (v := .agg #[.slice x1 a1.length c1, .slice x4 b2.length c4, .bool true]) (results_cell_row (p := 4) (ty := 31) rfl _ _ (w.heap.size + 1 + 1) 31 _ (0, 0) _ rfl (HG.out _ _ _ _) Tryd.underlying31 rfl Tryd.infoSpan) rfl ⟨_, _, rfl, H1.out.new (HFIN.out _ _ _ _), H4.out.new (HFIN.out _ _ _ _), HFIN.out _ _ _ _⟩

set_option maxHeartbeats 1000000 in
theorem ymeet_0100 (x1 x2 x3 x4 : Option Addr) (c1 c2 c3 c4 : Nat) (a1 b1 a2 b2 : List UInt8) (w : World) (h1 : Says w (.slice x1 a1.length c1) a1) (h2 : Says w (.slice x2 b1.length c2) b1) (h3 : Says w (.slice x3 a2.length c3) a2) (h4 : Says w (.slice x4 b2.length c4) b2)
    (l e : Bool) (q0 : Op.bytesLess (str8 a2).toList (str8 a1).toList = l) (q1 : ((str8 a2).toList == (str8 a1).toList) = e) (q3 : (l || e) = true) (q2 : Op.bytesLess (str8 b2).toList (str8 b1).toList = false) :
    Calls Tryd.prog 15 #[.agg #[.slice x1 a1.length c1, .slice x2 b1.length c2, .bool true], .agg #[.slice x3 a2.length c3, .slice x4 b2.length c4, .bool false]] w fun e w' => ∃ fv tv, e = .returned (.agg #[fv, tv, .bool true]) ∧ Says w' fv a1 ∧ Says w' tv b1 ∧ Below w.heap.size w w' := by
  obtain ⟨z0, z1, z2, hb3, z3⟩ := alloc3 w (.cells #[.slice x1 a1.length c1, .slice x2 b1.length c2, .bool true] 31) (.cells #[.slice x3 a2.length c3, .slice x4 b2.length c4, .bool false] 31) (.cells #[.slice none 0 0, .slice none 0 0, .bool false] 31)
  generalize hW3 : ((w.alloc (.cells #[.slice x1 a1.length c1, .slice x2 b1.length c2, .bool true] 31)).alloc (.cells #[.slice x3 a2.length c3, .slice x4 b2.length c4, .bool false] 31)).alloc (.cells #[.slice none 0 0, .slice none 0 0, .bool false] 31) = W3 at *
  have z4 : W3.heap.size = w.heap.size + 1 + 1 + 1 := z3
  have p0 : W3.cell? ⟨w.heap.size, 0, none⟩ = some (.slice x1 a1.length c1) := by rw [cell_row _ _ _ _ _ _ z0]; rfl
  have p1 : W3.cell? ⟨w.heap.size, 2, none⟩ = some (.bool true) := by rw [cell_row _ _ _ _ _ _ z0]; rfl
  have p2 : W3.cell? ⟨w.heap.size + 1, 2, none⟩ = some (.bool false) := by rw [cell_row _ _ _ _ _ _ z1]; rfl
  have y0 := fun X => (old_cells z0 X).1
  have y1 := fun X => (old_cells z0 X).2.1
  have y2 := fun X => (old_cells z0 X).2.2
  have y3 := fun X => (old_cells z1 X).1
  have y4 := fun X => (old_cells z1 X).2.1
  have y5 := fun X => (old_cells z1 X).2.2
  obtain ⟨g1, g2, g3, g4, g5, g6, g7⟩ := res_facts z2
  have hbX : ∀ X, Below w.heap.size w (W3.alloc X) := fun X => hb3.alloc (by omega) _
  have u1 := fun X => str4 (h1.new (hbX X))
  have u2 := fun X => str4 (h2.new (hbX X))
  have u3 := fun X => str4 (h3.new (hbX X))
  have u4 := fun X => str4 (h4.new (hbX X))
  have hfin : ∀ (u v x : Value) (X : Obj), Below w.heap.size w ((((W3.setCell ⟨w.heap.size + 1 + 1, 0, none⟩ u).setCell ⟨w.heap.size + 1 + 1, 1, none⟩ v).setCell ⟨w.heap.size + 1 + 1, 2, none⟩ x).alloc X) := fun u v x X => (((hb3.setCell (by show _ ≤ w.heap.size + 1 + 1; omega) u).setCell (by show _ ≤ w.heap.size + 1 + 1; omega) v).setCell (by show _ ≤ w.heap.size + 1 + 1; omega) x).alloc (by simp [World.setCell]; omega) X
  have HG := hid g7
  have HFIN := hid hfin
  have H1 := hid h1
  have H2 := hid h2
  have H3 := hid h3
  have H4 := hid h4
  clear h1 h2 h3 h4 hb3 hbX z0 z1 z2 z3 g7 hfin
  generalize str8 a1 = S1 at *
  generalize str8 b1 = S2 at *
  generalize str8 a2 = S3 at *
  generalize str8 b2 = S4 at *
  go_enter Tryd.func15, Tryd.ntmps15
  go_wp2
  refine bodyPost_ret (v := .agg #[.slice x1 a1.length c1, .slice x2 b1.length c2, .bool true]) (results_cell_row (p := 4) (ty := 31) rfl _ _ (w.heap.size + 1 + 1) 31 _ (0, 0) _ rfl (HG.out _ _ _ _) Tryd.underlying31 rfl Tryd.infoSpan) rfl ⟨_, _, rfl, H1.out.new (HFIN.out _ _ _ _), H2.out.new (HFIN.out _ _ _ _), HFIN.out _ _ _ _⟩

set_option maxHeartbeats 1000000 in
theorem ymeet_0101 (x1 x2 x3 x4 : Option Addr) (c1 c2 c3 c4 : Nat) (a1 b1 a2 b2 : List UInt8) (w : World) (h1 : Says w (.slice x1 a1.length c1) a1) (h2 : Says w (.slice x2 b1.length c2) b1) (h3 : Says w (.slice x3 a2.length c3) a2) (h4 : Says w (.slice x4 b2.length c4) b2)
    (l e : Bool) (q0 : Op.bytesLess (str8 a2).toList (str8 a1).toList = l) (q1 : ((str8 a2).toList == (str8 a1).toList) = e) (q3 : (l || e) = true) (q2 : Op.bytesLess (str8 b2).toList (str8 b1).toList = true) :
    Calls Tryd.prog 15 #[.agg #[.slice x1 a1.length c1, .slice x2 b1.length c2, .bool true], .agg #[.slice x3 a2.length c3, .slice x4 b2.length c4, .bool false]] w fun e w' => ∃ fv tv, e = .returned (.agg #[fv, tv, .bool true]) ∧ Says w' fv a1 ∧ Says w' tv b1 ∧ Below w.heap.size w w' := by
  obtain ⟨z0, z1, z2, hb3, z3⟩ := alloc3 w (.cells #[.slice x1 a1.length c1, .slice x2 b1.length c2, .bool true] 31) (.cells #[.slice x3 a2.length c3, .slice x4 b2.length c4, .bool false] 31) (.cells #[.slice none 0 0, .slice none 0 0, .bool false] 31)
  generalize hW3 : ((w.alloc (.cells #[.slice x1 a1.length c1, .slice x2 b1.length c2, .bool true] 31)).alloc (.cells #[.slice x3 a2.length c3, .slice x4 b2.length c4, .bool false] 31)).alloc (.cells #[.slice none 0 0, .slice none 0 0, .bool false] 31) = W3 at *
  have z4 : W3.heap.size = w.heap.size + 1 + 1 + 1 := z3
  have p0 : W3.cell? ⟨w.heap.size, 0, none⟩ = some (.slice x1 a1.length c1) := by rw [cell_row _ _ _ _ _ _ z0]; rfl
  have p1 : W3.cell? ⟨w.heap.size, 2, none⟩ = some (.bool true) := by rw [cell_row _ _ _ _ _ _ z0]; rfl
  have p2 : W3.cell? ⟨w.heap.size + 1, 2, none⟩ = some (.bool false) := by rw [cell_row _ _ _ _ _ _ z1]; rfl
  have y0 := fun X => (old_cells z0 X).1
  have y1 := fun X => (old_cells z0 X).2.1
  have y2 := fun X => (old_cells z0 X).2.2
  have y3 := fun X => (old_cells z1 X).1
  have y4 := fun X => (old_cells z1 X).2.1
  have y5 := fun X => (old_cells z1 X).2.2
  obtain ⟨g1, g2, g3, g4, g5, g6, g7⟩ := res_facts z2
  have hbX : ∀ X, Below w.heap.size w (W3.alloc X) := fun X => hb3.alloc (by omega) _
  have u1 := fun X => str4 (h1.new (hbX X))
  have u2 := fun X => str4 (h2.new (hbX X))
  have u3 := fun X => str4 (h3.new (hbX X))
  have u4 := fun X => str4 (h4.new (hbX X))
  have hfin : ∀ (u v x : Value) (X : Obj), Below w.heap.size w ((((W3.setCell ⟨w.heap.size + 1 + 1, 0, none⟩ u).setCell ⟨w.heap.size + 1 + 1, 1, none⟩ v).setCell ⟨w.heap.size + 1 + 1, 2, none⟩ x).alloc X) := fun u v x X => (((hb3.setCell (by show _ ≤ w.heap.size + 1 + 1; omega) u).setCell (by show _ ≤ w.heap.size + 1 + 1; omega) v).setCell (by show _ ≤ w.heap.size + 1 + 1; omega) x).alloc (by simp [World.setCell]; omega) X
  have HG := hid g7
  have HFIN := hid hfin
  have H1 := hid h1
  have H2 := hid h2
  have H3 := hid h3
  have H4 := hid h4
  clear h1 h2 h3 h4 hb3 hbX z0 z1 z2 z3 g7 hfin
  generalize str8 a1 = S1 at *
  generalize str8 b1 = S2 at *
  generalize str8 a2 = S3 at *
  generalize str8 b2 = S4 at *
  go_enter Tryd.func15, Tryd.ntmps15
  go_wp2
  refine bodyPost_ret (v := .agg #[.slice x1 a1.length c1, .slice x2 b1.length c2, .bool true]) (results_cell_row (p := 4) (ty := 31) rfl _ _ (w.heap.size + 1 + 1) 31 _ (0, 0) _ rfl (HG.out _ _ _ _) Tryd.underlying31 rfl Tryd.infoSpan) rfl ⟨_, _, rfl, H1.out.new (HFIN.out _ _ _ _), H2.out.new (HFIN.out _ _ _ _), HFIN.out _ _ _ _⟩

set_option maxHeartbeats 1000000 in
theorem ymeet_0110 (x1 x2 x3 x4 : Option Addr) (c1 c2 c3 c4 : Nat) (a1 b1 a2 b2 : List UInt8) (w : World) (h1 : Says w (.slice x1 a1.length c1) a1) (h2 : Says w (.slice x2 b1.length c2) b1) (h3 : Says w (.slice x3 a2.length c3) a2) (h4 : Says w (.slice x4 b2.length c4) b2)
    (l e : Bool) (q0 : Op.bytesLess (str8 a2).toList (str8 a1).toList = l) (q1 : ((str8 a2).toList == (str8 a1).toList) = e) (q3 : (l || e) = true) (q2 : Op.bytesLess (str8 b2).toList (str8 b1).toList = false) :
    Calls Tryd.prog 15 #[.agg #[.slice x1 a1.length c1, .slice x2 b1.length c2, .bool true], .agg #[.slice x3 a2.length c3, .slice x4 b2.length c4, .bool true]] w fun e w' => ∃ fv tv, e = .returned (.agg #[fv, tv, .bool true]) ∧ Says w' fv a1 ∧ Says w' tv b1 ∧ Below w.heap.size w w' := by
  obtain ⟨z0, z1, z2, hb3, z3⟩ := alloc3 w (.cells #[.slice x1 a1.length c1, .slice x2 b1.length c2, .bool true] 31) (.cells #[.slice x3 a2.length c3, .slice x4 b2.length c4, .bool true] 31) (.cells #[.slice none 0 0, .slice none 0 0, .bool false] 31)
  generalize hW3 : ((w.alloc (.cells #[.slice x1 a1.length c1, .slice x2 b1.length c2, .bool true] 31)).alloc (.cells #[.slice x3 a2.length c3, .slice x4 b2.length c4, .bool true] 31)).alloc (.cells #[.slice none 0 0, .slice none 0 0, .bool false] 31) = W3 at *
  have z4 : W3.heap.size = w.heap.size + 1 + 1 + 1 := z3
  have p0 : W3.cell? ⟨w.heap.size, 0, none⟩ = some (.slice x1 a1.length c1) := by rw [cell_row _ _ _ _ _ _ z0]; rfl
  have p1 : W3.cell? ⟨w.heap.size, 2, none⟩ = some (.bool true) := by rw [cell_row _ _ _ _ _ _ z0]; rfl
  have p2 : W3.cell? ⟨w.heap.size + 1, 2, none⟩ = some (.bool true) := by rw [cell_row _ _ _ _ _ _ z1]; rfl
  have y0 := fun X => (old_cells z0 X).1
  have y1 := fun X => (old_cells z0 X).2.1
  have y2 := fun X => (old_cells z0 X).2.2
  have y3 := fun X => (old_cells z1 X).1
  have y4 := fun X => (old_cells z1 X).2.1
  have y5 := fun X => (old_cells z1 X).2.2
  obtain ⟨g1, g2, g3, g4, g5, g6, g7⟩ := res_facts z2
  have hbX : ∀ X, Below w.heap.size w (W3.alloc X) := fun X => hb3.alloc (by omega) _
  have u1 := fun X => str4 (h1.new (hbX X))
  have u2 := fun X => str4 (h2.new (hbX X))
  have u3 := fun X => str4 (h3.new (hbX X))
  have u4 := fun X => str4 (h4.new (hbX X))
  have hfin : ∀ (u v x : Value) (X : Obj), Below w.heap.size w ((((W3.setCell ⟨w.heap.size + 1 + 1, 0, none⟩ u).setCell ⟨w.heap.size + 1 + 1, 1, none⟩ v).setCell ⟨w.heap.size + 1 + 1, 2, none⟩ x).alloc X) := fun u v x X => (((hb3.setCell (by show _ ≤ w.heap.size + 1 + 1; omega) u).setCell (by show _ ≤ w.heap.size + 1 + 1; omega) v).setCell (by show _ ≤ w.heap.size + 1 + 1; omega) x).alloc (by simp [World.setCell]; omega) X
  have HG := hid g7
  have HFIN := hid hfin
  have H1 := hid h1
  have H2 := hid h2
  have H3 := hid h3
  have H4 := hid h4
  clear h1 h2 h3 h4 hb3 hbX z0 z1 z2 z3 g7 hfin
  generalize str8 a1 = S1 at *
  generalize str8 b1 = S2 at *
  generalize str8 a2 = S3 at *
  generalize str8 b2 = S4 at *
  go_enter Tryd.func15, Tryd.ntmps15
  go_wp2
  refine bodyPost_ret (v := .agg #[.slice x1 a1.length c1, .slice x2 b1.length c2, .bool true]) (results_cell_row (p := 4) (ty := 31) rfl _ _ (w.heap.size + 1 + 1) 31 _ (0, 0) _ rfl (HG.out _ _ _ _) Tryd.underlying31 rfl Tryd.infoSpan) rfl ⟨_, _, rfl, H1.out.new (HFIN.out _ _ _ _), H2.out.new (HFIN.out _ _ _ _), HFIN.out _ _ _ _⟩

set_option maxHeartbeats 1000000 in
theorem ymeet_0111 (x1 x2 x3 x4 : Option Addr) (c1 c2 c3 c4 : Nat) (a1 b1 a2 b2 : List UInt8) (w : World) (h1 : Says w (.slice x1 a1.length c1) a1) (h2 : Says w (.slice x2 b1.length c2) b1) (h3 : Says w (.slice x3 a2.length c3) a2) (h4 : Says w (.slice x4 b2.length c4) b2)
    (l e : Bool) (q0 : Op.bytesLess (str8 a2).toList (str8 a1).toList = l) (q1 : ((str8 a2).toList == (str8 a1).toList) = e) (q3 : (l || e) = true) (q2 : Op.bytesLess (str8 b2).toList (str8 b1).toList = true) :
    Calls Tryd.prog 15 #[.agg #[.slice x1 a1.length c1, .slice x2 b1.length c2, .bool true], .agg #[.slice x3 a2.length c3, .slice x4 b2.length c4, .bool true]] w fun e w' => ∃ fv tv, e = .returned (.agg #[fv, tv, .bool true]) ∧ Says w' fv a1 ∧ Says w' tv b2 ∧ Below w.heap.size w w' := by
  obtain ⟨z0, z1, z2, hb3, z3⟩ := alloc3 w (.cells #[.slice x1 a1.length c1, .slice x2 b1.length c2, .bool true] 31) (.cells #[.slice x3 a2.length c3, .slice x4 b2.length c4, .bool true] 31) (.cells #[.slice none 0 0, .slice none 0 0, .bool false] 31)
  generalize hW3 : ((w.alloc (.cells #[.slice x1 a1.length c1, .slice x2 b1.length c2, .bool true] 31)).alloc (.cells #[.slice x3 a2.length c3, .slice x4 b2.length c4, .bool true] 31)).alloc (.cells #[.slice none 0 0, .slice none 0 0, .bool false] 31) = W3 at *
  have z4 : W3.heap.size = w.heap.size + 1 + 1 + 1 := z3
  have p0 : W3.cell? ⟨w.heap.size, 0, none⟩ = some (.slice x1 a1.length c1) := by rw [cell_row _ _ _ _ _ _ z0]; rfl
  have p1 : W3.cell? ⟨w.heap.size, 2, none⟩ = some (.bool true) := by rw [cell_row _ _ _ _ _ _ z0]; rfl
  have p2 : W3.cell? ⟨w.heap.size + 1, 2, none⟩ = some (.bool true) := by rw [cell_row _ _ _ _ _ _ z1]; rfl
  have y0 := fun X => (old_cells z0 X).1
  have y1 := fun X => (old_cells z0 X).2.1
  have y2 := fun X => (old_cells z0 X).2.2
  have y3 := fun X => (old_cells z1 X).1
  have y4 := fun X => (old_cells z1 X).2.1
  have y5 := fun X => (old_cells z1 X).2.2
  obtain ⟨g1, g2, g3, g4, g5, g6, g7⟩ := res_facts z2
  have hbX : ∀ X, Below w.heap.size w (W3.alloc X) := fun X => hb3.alloc (by omega) _
  have u1 := fun X => str4 (h1.new (hbX X))
  have u2 := fun X => str4 (h2.new (hbX X))
  have u3 := fun X => str4 (h3.new (hbX X))
  have u4 := fun X => str4 (h4.new (hbX X))
  have hfin : ∀ (u v x : Value) (X : Obj), Below w.heap.size w ((((W3.setCell ⟨w.heap.size + 1 + 1, 0, none⟩ u).setCell ⟨w.heap.size + 1 + 1, 1, none⟩ v).setCell ⟨w.heap.size + 1 + 1, 2, none⟩ x).alloc X) := fun u v x X => (((hb3.setCell (by show _ ≤ w.heap.size + 1 + 1; omega) u).setCell (by show _ ≤ w.heap.size + 1 + 1; omega) v).setCell (by show _ ≤ w.heap.size + 1 + 1; omega) x).alloc (by simp [World.setCell]; omega) X
  have HG := hid g7
  have HFIN := hid hfin
  have H1 := hid h1
  have H2 := hid h2
  have H3 := hid h3
  have H4 := hid h4
  clear h1 h2 h3 h4 hb3 hbX z0 z1 z2 z3 g7 hfin
  generalize str8 a1 = S1 at *
  generalize str8 b1 = S2 at *
  generalize str8 a2 = S3 at *
  generalize str8 b2 = S4 at *
  go_enter Tryd.func15, Tryd.ntmps15
  go_wp2
  refine bodyPost_ret (v := .agg #[.slice x1 a1.length c1, .slice x4 b2.length c4, .bool true]) (results_cell_row (p := 4) (ty := 31) rfl _ _ (w.heap.size + 1 + 1) 31 _ (0, 0) _ rfl (HG.out _ _ _ _) Tryd.underlying31 rfl Tryd.infoSpan) rfl ⟨_, _, rfl, H1.out.new (HFIN.out _ _ _ _), H4.out.new (HFIN.out _ _ _ _), HFIN.out _ _ _ _⟩

set_option maxHeartbeats 1000000 in
theorem ymeet_1000 (x1 x2 x3 x4 : Option Addr) (c1 c2 c3 c4 : Nat) (a1 b1 a2 b2 : List UInt8) (w : World) (h1 : Says w (.slice x1 a1.length c1) a1) (h2 : Says w (.slice x2 b1.length c2) b1) (h3 : Says w (.slice x3 a2.length c3) a2) (h4 : Says w (.slice x4 b2.length c4) b2)
    (l e : Bool) (q0 : Op.bytesLess (str8 a2).toList (str8 a1).toList = l) (q1 : ((str8 a2).toList == (str8 a1).toList) = e) (q3 : (l || e) = false) (q2 : Op.bytesLess (str8 b2).toList (str8 b1).toList = false) :
    Calls Tryd.prog 15 #[.agg #[.slice x1 a1.length c1, .slice x2 b1.length c2, .bool false], .agg #[.slice x3 a2.length c3, .slice x4 b2.length c4, .bool false]] w fun e w' => ∃ fv tv, e = .returned (.agg #[fv, tv, .bool false]) ∧ Says w' fv a2 ∧ Says w' tv [] ∧ Below w.heap.size w w' := by
  obtain ⟨z0, z1, z2, hb3, z3⟩ := alloc3 w (.cells #[.slice x1 a1.length c1, .slice x2 b1.length c2, .bool false] 31) (.cells #[.slice x3 a2.length c3, .slice x4 b2.length c4, .bool false] 31) (.cells #[.slice none 0 0, .slice none 0 0, .bool false] 31)
  generalize hW3 : ((w.alloc (.cells #[.slice x1 a1.length c1, .slice x2 b1.length c2, .bool false] 31)).alloc (.cells #[.slice x3 a2.length c3, .slice x4 b2.length c4, .bool false] 31)).alloc (.cells #[.slice none 0 0, .slice none 0 0, .bool false] 31) = W3 at *
  have z4 : W3.heap.size = w.heap.size + 1 + 1 + 1 := z3
  have p0 : W3.cell? ⟨w.heap.size, 0, none⟩ = some (.slice x1 a1.length c1) := by rw [cell_row _ _ _ _ _ _ z0]; rfl
  have p1 : W3.cell? ⟨w.heap.size, 2, none⟩ = some (.bool false) := by rw [cell_row _ _ _ _ _ _ z0]; rfl
  have p2 : W3.cell? ⟨w.heap.size + 1, 2, none⟩ = some (.bool false) := by rw [cell_row _ _ _ _ _ _ z1]; rfl
  have y0 := fun X => (old_cells z0 X).1
  have y1 := fun X => (old_cells z0 X).2.1
  have y2 := fun X => (old_cells z0 X).2.2
  have y3 := fun X => (old_cells z1 X).1
  have y4 := fun X => (old_cells z1 X).2.1
  have y5 := fun X => (old_cells z1 X).2.2
  obtain ⟨g1, g2, g3, g4, g5, g6, g7⟩ := res_facts z2
  have hbX : ∀ X, Below w.heap.size w (W3.alloc X) := fun X => hb3.alloc (by omega) _
  have u1 := fun X => str4 (h1.new (hbX X))
  have u2 := fun X => str4 (h2.new (hbX X))
  have u3 := fun X => str4 (h3.new (hbX X))
  have u4 := fun X => str4 (h4.new (hbX X))
  have hfin : ∀ (u v x : Value) (X : Obj), Below w.heap.size w ((((W3.setCell ⟨w.heap.size + 1 + 1, 0, none⟩ u).setCell ⟨w.heap.size + 1 + 1, 1, none⟩ v).setCell ⟨w.heap.size + 1 + 1, 2, none⟩ x).alloc X) := fun u v x X => (((hb3.setCell (by show _ ≤ w.heap.size + 1 + 1; omega) u).setCell (by show _ ≤ w.heap.size + 1 + 1; omega) v).setCell (by show _ ≤ w.heap.size + 1 + 1; omega) x).alloc (by simp [World.setCell]; omega) X
  have HG := hid g7
  have HFIN := hid hfin
  have H1 := hid h1
  have H2 := hid h2
  have H3 := hid h3
  have H4 := hid h4
  clear h1 h2 h3 h4 hb3 hbX z0 z1 z2 z3 g7 hfin
  generalize str8 a1 = S1 at *
  generalize str8 b1 = S2 at *
  generalize str8 a2 = S3 at *
  generalize str8 b2 = S4 at *
  go_enter Tryd.func15, Tryd.ntmps15
  go_wp2
  refine bodyPost_ret (v := .agg #[.slice x3 a2.length c3, .slice none 0 0, .bool false]) (results_cell_row (p := 4) (ty := 31) rfl _ _ (w.heap.size + 1 + 1) 31 _ (0, 0) _ rfl (HG.out _ _ _ _) Tryd.underlying31 rfl Tryd.infoSpan) rfl ⟨_, _, rfl, H3.out.new (HFIN.out _ _ _ _), says_nil _, HFIN.out _ _ _ _⟩

set_option maxHeartbeats 1000000 in
theorem ymeet_1001 (x1 x2 x3 x4 : Option Addr) (c1 c2 c3 c4 : Nat) (a1 b1 a2 b2 : List UInt8) (w : World) (h1 : Says w (.slice x1 a1.length c1) a1) (h2 : Says w (.slice x2 b1.length c2) b1) (h3 : Says w (.slice x3 a2.length c3) a2) (h4 : Says w (.slice x4 b2.length c4) b2)
    (l e : Bool) (q0 : Op.bytesLess (str8 a2).toList (str8 a1).toList = l) (q1 : ((str8 a2).toList == (str8 a1).toList) = e) (q3 : (l || e) = false) (q2 : Op.bytesLess (str8 b2).toList (str8 b1).toList = true) :
    Calls Tryd.prog 15 #[.agg #[.slice x1 a1.length c1, .slice x2 b1.length c2, .bool false], .agg #[.slice x3 a2.length c3, .slice x4 b2.length c4, .bool false]] w fun e w' => ∃ fv tv, e = .returned (.agg #[fv, tv, .bool false]) ∧ Says w' fv a2 ∧ Says w' tv [] ∧ Below w.heap.size w w' := by
  obtain ⟨z0, z1, z2, hb3, z3⟩ := alloc3 w (.cells #[.slice x1 a1.length c1, .slice x2 b1.length c2, .bool false] 31) (.cells #[.slice x3 a2.length c3, .slice x4 b2.length c4, .bool false] 31) (.cells #[.slice none 0 0, .slice none 0 0, .bool false] 31)
  generalize hW3 : ((w.alloc (.cells #[.slice x1 a1.length c1, .slice x2 b1.length c2, .bool false] 31)).alloc (.cells #[.slice x3 a2.length c3, .slice x4 b2.length c4, .bool false] 31)).alloc (.cells #[.slice none 0 0, .slice none 0 0, .bool false] 31) = W3 at *
  have z4 : W3.heap.size = w.heap.size + 1 + 1 + 1 := z3
  have p0 : W3.cell? ⟨w.heap.size, 0, none⟩ = some (.slice x1 a1.length c1) := by rw [cell_row _ _ _ _ _ _ z0]; rfl
  have p1 : W3.cell? ⟨w.heap.size, 2, none⟩ = some (.bool false) := by rw [cell_row _ _ _ _ _ _ z0]; rfl
  have p2 : W3.cell? ⟨w.heap.size + 1, 2, none⟩ = some (.bool false) := by rw [cell_row _ _ _ _ _ _ z1]; rfl
  have y0 := fun X => (old_cells z0 X).1
  have y1 := fun X => (old_cells z0 X).2.1
  have y2 := fun X => (old_cells z0 X).2.2
  have y3 := fun X => (old_cells z1 X).1
  have y4 := fun X => (old_cells z1 X).2.1
  have y5 := fun X => (old_cells z1 X).2.2
  obtain ⟨g1, g2, g3, g4, g5, g6, g7⟩ := res_facts z2
  have hbX : ∀ X, Below w.heap.size w (W3.alloc X) := fun X => hb3.alloc (by omega) _
  have u1 := fun X => str4 (h1.new (hbX X))
  have u2 := fun X => str4 (h2.new (hbX X))
  have u3 := fun X => str4 (h3.new (hbX X))
  have u4 := fun X => str4 (h4.new (hbX X))
  have hfin : ∀ (u v x : Value) (X : Obj), Below w.heap.size w ((((W3.setCell ⟨w.heap.size + 1 + 1, 0, none⟩ u).setCell ⟨w.heap.size + 1 + 1, 1, none⟩ v).setCell ⟨w.heap.size + 1 + 1, 2, none⟩ x).alloc X) := fun u v x X => (((hb3.setCell (by show _ ≤ w.heap.size + 1 + 1; omega) u).setCell (by show _ ≤ w.heap.size + 1 + 1; omega) v).setCell (by show _ ≤ w.heap.size + 1 + 1; omega) x).alloc (by simp [World.setCell]; omega) X
  have HG := hid g7
  have HFIN := hid hfin
  have H1 := hid h1
  have H2 := hid h2
  have H3 := hid h3
  have H4 := hid h4
  clear h1 h2 h3 h4 hb3 hbX z0 z1 z2 z3 g7 hfin
  generalize str8 a1 = S1 at *
  generalize str8 b1 = S2 at *
  generalize str8 a2 = S3 at *
  generalize str8 b2 = S4 at *
  go_enter Tryd.func15, Tryd.ntmps15
  go_wp2
  refine bodyPost_ret (v := .agg #[.slice x3 a2.length c3, .slice none 0 0, .bool false]) (results_cell_row (p := 4) (ty := 31) rfl _ _ (w.heap.size + 1 + 1) 31 _ (0, 0) _ rfl (HG.out _ _ _ _) Tryd.underlying31 rfl Tryd.infoSpan) rfl ⟨_, _, rfl, H3.out.new (HFIN.out _ _ _ _), says_nil _, HFIN.out _ _ _ _⟩

set_option maxHeartbeats 1000000 in
theorem ymeet_1010 (x1 x2 x3 x4 : Option Addr) (c1 c2 c3 c4 : Nat) (a1 b1 a2 b2 : List UInt8) (w : World) (h1 : Says w (.slice x1 a1.length c1) a1) (h2 : Says w (.slice x2 b1.length c2) b1) (h3 : Says w (.slice x3 a2.length c3) a2) (h4 : Says w (.slice x4 b2.length c4) b2)
    (l e : Bool) (q0 : Op.bytesLess (str8 a2).toList (str8 a1).toList = l) (q1 : ((str8 a2).toList == (str8 a1).toList) = e) (q3 : (l || e) = false) (q2 : Op.bytesLess (str8 b2).toList (str8 b1).toList = false) :
    Calls Tryd.prog 15 #[.agg #[.slice x1 a1.length c1, .slice x2 b1.length c2, .bool false], .agg #[.slice x3 a2.length c3, .slice x4 b2.length c4, .bool true]] w fun e w' => ∃ fv tv, e = .returned (.agg #[fv, tv, .bool true]) ∧ Says w' fv a2 ∧ Says w' tv b2 ∧ Below w.heap.size w w' := by
  obtain ⟨z0, z1, z2, hb3, z3⟩ := alloc3 w (.cells #[.slice x1 a1.length c1, .slice x2 b1.length c2, .bool false] 31) (.cells #[.slice x3 a2.length c3, .slice x4 b2.length c4, .bool true] 31) (.cells #[.slice none 0 0, .slice none 0 0, .bool false] 31)
  generalize hW3 : ((w.alloc (.cells #[.slice x1 a1.length c1, .slice x2 b1.length c2, .bool false] 31)).alloc (.cells #[.slice x3 a2.length c3, .slice x4 b2.length c4, .bool true] 31)).alloc (.cells #[.slice none 0 0, .slice none 0 0, .bool false] 31) = W3 at *
  have z4 : W3.heap.size = w.heap.size + 1 + 1 + 1 := z3
  have p0 : W3.cell? ⟨w.heap.size, 0, none⟩ = some (.slice x1 a1.length c1) := by rw [cell_row _ _ _ _ _ _ z0]; rfl
  have p1 : W3.cell? ⟨w.heap.size, 2, none⟩ = some (.bool false) := by rw [cell_row _ _ _ _ _ _ z0]; rfl
  have p2 : W3.cell? ⟨w.heap.size + 1, 2, none⟩ = some (.bool true) := by rw [cell_row _ _ _ _ _ _ z1]; rfl
  have y0 := fun X => (old_cells z0 X).1
  have y1 := fun X => (old_cells z0 X).2.1
  have y2 := fun X => (old_cells z0 X).2.2
  have y3 := fun X => (old_cells z1 X).1
  have y4 := fun X => (old_cells z1 X).2.1
  have y5 := fun X => (old_cells z1 X).2.2
  obtain ⟨g1, g2, g3, g4, g5, g6, g7⟩ := res_facts z2
  have hbX : ∀ X, Below w.heap.size w (W3.alloc X) := fun X => hb3.alloc (by omega) _
  have u1 := fun X => str4 (h1.new (hbX X))
  have u2 := fun X => str4 (h2.new (hbX X))
  have u3 := fun X => str4 (h3.new (hbX X))
  have u4 := fun X => str4 (h4.new (hbX X))
  have hfin : ∀ (u v x : Value) (X : Obj), Below w.heap.size w ((((W3.setCell ⟨w.heap.size + 1 + 1, 0, none⟩ u).setCell ⟨w.heap.size + 1 + 1, 1, none⟩ v).setCell ⟨w.heap.size + 1 + 1, 2, none⟩ x).alloc X) := fun u v x X => (((hb3.setCell (by show _ ≤ w.heap.size + 1 + 1; omega) u).setCell (by show _ ≤ w.heap.size + 1 + 1; omega) v).setCell (by show _ ≤ w.heap.size + 1 + 1; omega) x).alloc (by simp [World.setCell]; omega) X
  have HG := hid g7
  have HFIN := hid hfin
  have H1 := hid h1
  have H2 := hid h2
  have H3 := hid h3
  have H4 := hid h4
  clear h1 h2 h3 h4 hb3 hbX z0 z1 z2 z3 g7 hfin
  generalize str8 a1 = S1 at *
  generalize str8 b1 = S2 at *
  generalize str8 a2 = S3 at *
  generalize str8 b2 = S4 at *
  go_enter Tryd.func15, Tryd.ntmps15
  go_wp2
  refine bodyPost_ret (v := .agg #[.slice x3 a2.length c3, .slice x4 b2.length c4, .bool true]) (results_cell_row (p := 4) (ty := 31) rfl _ _ (w.heap.size + 1 + 1) 31 _ (0, 0) _ rfl (HG.out _ _ _ _) Tryd.underlying31 rfl Tryd.infoSpan) rfl ⟨_, _, rfl, H3.out.new (HFIN.out _ _ _ _), H4.out.new (HFIN.out _ _ _ _), HFIN.out _ _ _ _⟩

set_option maxHeartbeats 1000000 in
theorem ymeet_1011 (x1 x2 x3 x4 : Option Addr) (c1 c2 c3 c4 : Nat) (a1 b1 a2 b2 : List UInt8) (w : World) (h1 : Says w (.slice x1 a1.length c1) a1) (h2 : Says w (.slice x2 b1.length c2) b1) (h3 : Says w (.slice x3 a2.length c3) a2) (h4 : Says w (.slice x4 b2.length c4) b2)
    (l e : Bool) (q0 : Op.bytesLess (str8 a2).toList (str8 a1).toList = l) (q1 : ((str8 a2).toList == (str8 a1).toList) = e) (q3 : (l || e) = false) (q2 : Op.bytesLess (str8 b2).toList (str8 b1).toList = true) :
    Calls Tryd.prog 15 #[.agg #[.slice x1 a1.length c1, .slice x2 b1.length c2, .bool false], .agg #[.slice x3 a2.length c3, .slice x4 b2.length c4, .bool true]] w fun e w' => ∃ fv tv, e = .returned (.agg #[fv, tv, .bool true]) ∧ Says w' fv a2 ∧ Says w' tv b2 ∧ Below w.heap.size w w' := by
  obtain ⟨z0, z1, z2, hb3, z3⟩ := alloc3 w (.cells #[.slice x1 a1.length c1, .slice x2 b1.length c2, .bool false] 31) (.cells #[.slice x3 a2.length c3, .slice x4 b2.length c4, .bool true] 31) (.cells #[.slice none 0 0, .slice none 0 0, .bool false] 31)
  generalize hW3 : ((w.alloc (.cells #[.slice x1 a1.length c1, .slice x2 b1.length c2, .bool false] 31)).alloc (.cells #[.slice x3 a2.length c3, .slice x4 b2.length c4, .bool true] 31)).alloc (.cells #[.slice none 0 0, .slice none 0 0, .bool false] 31) = W3 at *
  have z4 : W3.heap.size = w.heap.size + 1 + 1 + 1 := z3
  have p0 : W3.cell? ⟨w.heap.size, 0, none⟩ = some (.slice x1 a1.length c1) := by rw [cell_row _ _ _ _ _ _ z0]; rfl
  have p1 : W3.cell? ⟨w.heap.size, 2, none⟩ = some (.bool false) := by rw [cell_row _ _ _ _ _ _ z0]; rfl
  have p2 : W3.cell? ⟨w.heap.size + 1, 2, none⟩ = some (.bool true) := by rw [cell_row _ _ _ _ _ _ z1]; rfl
  have y0 := fun X => (old_cells z0 X).1
  have y1 := fun X => (old_cells z0 X).2.1
  have y2 := fun X => (old_cells z0 X).2.2
  have y3 := fun X => (old_cells z1 X).1
  have y4 := fun X => (old_cells z1 X).2.1
  have y5 := fun X => (old_cells z1 X).2.2
  obtain ⟨g1, g2, g3, g4, g5, g6, g7⟩ := res_facts z2
  have hbX : ∀ X, Below w.heap.size w (W3.alloc X) := fun X => hb3.alloc (by omega) _
  have u1 := fun X => str4 (h1.new (hbX X))
  have u2 := fun X => str4 (h2.new (hbX X))
  have u3 := fun X => str4 (h3.new (hbX X))
  have u4 := fun X => str4 (h4.new (hbX X))
  have hfin : ∀ (u v x : Value) (X : Obj), Below w.heap.size w ((((W3.setCell ⟨w.heap.size + 1 + 1, 0, none⟩ u).setCell ⟨w.heap.size + 1 + 1, 1, none⟩ v).setCell ⟨w.heap.size + 1 + 1, 2, none⟩ x).alloc X) := fun u v x X => (((hb3.setCell (by show _ ≤ w.heap.size + 1 + 1; omega) u).setCell (by show _ ≤ w.heap.size + 1 + 1; omega) v).setCell (by show _ ≤ w.heap.size + 1 + 1; omega) x).alloc (by simp [World.setCell]; omega) X
  have HG := hid g7
  have HFIN := hid hfin
  have H1 := hid h1
  have H2 := hid h2
  have H3 := hid h3
  have H4 := hid h4
  clear h1 h2 h3 h4 hb3 hbX z0 z1 z2 z3 g7 hfin
  generalize str8 a1 = S1 at *
  generalize str8 b1 = S2 at *
  generalize str8 a2 = S3 at *
  generalize str8 b2 = S4 at *
  go_enter Tryd.func15, Tryd.ntmps15
  go_wp2
  refine bodyPost_ret (v := .agg #[.slice x3 a2.length c3, .slice x4 b2.length c4, .bool true]) (results_cell_row (p := 4) (ty := 31) rfl _ _ (w.heap.size + 1 + 1) 31 _ (0, 0) _ rfl (HG.out _ _ _ _) Tryd.underlying31 rfl Tryd.infoSpan) rfl ⟨_, _, rfl, H3.out.new (HFIN.out _ _ _ _), H4.out.new (HFIN.out _ _ _ _), HFIN.out _ _ _ _⟩

set_option maxHeartbeats 1000000 in
theorem ymeet_1100 (x1 x2 x3 x4 : Option Addr) (c1 c2 c3 c4 : Nat) (a1 b1 a2 b2 : List UInt8) (w : World) (h1 : Says w (.slice x1 a1.length c1) a1) (h2 : Says w (.slice x2 b1.length c2) b1) (h3 : Says w (.slice x3 a2.length c3) a2) (h4 : Says w (.slice x4 b2.length c4) b2)
    (l e : Bool) (q0 : Op.bytesLess (str8 a2).toList (str8 a1).toList = l) (q1 : ((str8 a2).toList == (str8 a1).toList) = e) (q3 : (l || e) = false) (q2 : Op.bytesLess (str8 b2).toList (str8 b1).toList = false) :
    Calls Tryd.prog 15 #[.agg #[.slice x1 a1.length c1, .slice x2 b1.length c2, .bool true], .agg #[.slice x3 a2.length c3, .slice x4 b2.length c4, .bool false]] w fun e w' => ∃ fv tv, e = .returned (.agg #[fv, tv, .bool true]) ∧ Says w' fv a2 ∧ Says w' tv b1 ∧ Below w.heap.size w w' := by
  obtain ⟨z0, z1, z2, hb3, z3⟩ := alloc3 w (.cells #[.slice x1 a1.length c1, .slice x2 b1.length c2, .bool true] 31) (.cells #[.slice x3 a2.length c3, .slice x4 b2.length c4, .bool false] 31) (.cells #[.slice none 0 0, .slice none 0 0, .bool false] 31)
  generalize hW3 : ((w.alloc (.cells #[.slice x1 a1.length c1, .slice x2 b1.length c2, .bool true] 31)).alloc (.cells #[.slice x3 a2.length c3, .slice x4 b2.length c4, .bool false] 31)).alloc (.cells #[.slice none 0 0, .slice none 0 0, .bool false] 31) = W3 at *
  have z4 : W3.heap.size = w.heap.size + 1 + 1 + 1 := z3
  have p0 : W3.cell? ⟨w.heap.size, 0, none⟩ = some (.slice x1 a1.length c1) := by rw [cell_row _ _ _ _ _ _ z0]; rfl
  have p1 : W3.cell? ⟨w.heap.size, 2, none⟩ = some (.bool true) := by rw [cell_row _ _ _ _ _ _ z0]; rfl
  have p2 : W3.cell? ⟨w.heap.size + 1, 2, none⟩ = some (.bool false) := by rw [cell_row _ _ _ _ _ _ z1]; rfl
  have y0 := fun X => (old_cells z0 X).1
  have y1 := fun X => (old_cells z0 X).2.1
  have y2 := fun X => (old_cells z0 X).2.2
  have y3 := fun X => (old_cells z1 X).1
  have y4 := fun X => (old_cells z1 X).2.1
  have y5 := fun X => (old_cells z1 X).2.2
  obtain ⟨g1, g2, g3, g4, g5, g6, g7⟩ := res_facts z2
  have hbX : ∀ X, Below w.heap.size w (W3.alloc X) := fun X => hb3.alloc (by omega) _
  have u1 := fun X => str4 (h1.new (hbX X))
  have u2 := fun X => str4 (h2.new (hbX X))
  have u3 := fun X => str4 (h3.new (hbX X))
  have u4 := fun X => str4 (h4.new (hbX X))
  have hfin : ∀ (u v x : Value) (X : Obj), Below w.heap.size w ((((W3.setCell ⟨w.heap.size + 1 + 1, 0, none⟩ u).setCell ⟨w.heap.size + 1 + 1, 1, none⟩ v).setCell ⟨w.heap.size + 1 + 1, 2, none⟩ x).alloc X) := fun u v x X => (((hb3.setCell (by show _ ≤ w.heap.size + 1 + 1; omega) u).setCell (by show _ ≤ w.heap.size + 1 + 1; omega) v).setCell (by show _ ≤ w.heap.size + 1 + 1; omega) x).alloc (by simp [World.setCell]; omega) X
  have HG := hid g7
  have HFIN := hid hfin
  have H1 := hid h1
  have H2 := hid h2
  have H3 := hid h3
  have H4 := hid h4
  clear h1 h2 h3 h4 hb3 hbX z0 z1 z2 z3 g7 hfin
  generalize str8 a1 = S1 at *
  generalize str8 b1 = S2 at *
  generalize str8 a2 = S3 at *
  generalize str8 b2 = S4 at *
  go_enter Tryd.func15, Tryd.ntmps15
  go_wp2
  refine bodyPost_ret (v := .agg #[.slice x3 a2.length c3, .slice x2 b1.length c2, .bool true]) (results_cell_row (p := 4) (ty := 31) rfl _ _ (w.heap.size + 1 + 1) 31 _ (0, 0) _ rfl (HG.out _ _ _ _) Tryd.underlying31 rfl Tryd.infoSpan) rfl ⟨_, _, rfl, H3.out.new (HFIN.out _ _ _ _), H2.out.new (HFIN.out _ _ _ _), HFIN.out _ _ _ _⟩

set_option maxHeartbeats 1000000 in
theorem ymeet_1101 (x1 x2 x3 x4 : Option Addr) (c1 c2 c3 c4 : Nat) (a1 b1 a2 b2 : List UInt8) (w : World) (h1 : Says w (.slice x1 a1.length c1) a1) (h2 : Says w (.slice x2 b1.length c2) b1) (h3 : Says w (.slice x3 a2.length c3) a2) (h4 : Says w (.slice x4 b2.length c4) b2)
    (l e : Bool) (q0 : Op.bytesLess (str8 a2).toList (str8 a1).toList = l) (q1 : ((str8 a2).toList == (str8 a1).toList) = e) (q3 : (l || e) = false) (q2 : Op.bytesLess (str8 b2).toList (str8 b1).toList = true) :
    Calls Tryd.prog 15 #[.agg #[.slice x1 a1.length c1, .slice x2 b1.length c2, .bool true], .agg #[.slice x3 a2.length c3, .slice x4 b2.length c4, .bool false]] w fun e w' => ∃ fv tv, e = .returned (.agg #[fv, tv, .bool true]) ∧ Says w' fv a2 ∧ Says w' tv b1 ∧ Below w.heap.size w w' := by
  obtain ⟨z0, z1, z2, hb3, z3⟩ := alloc3 w (.cells #[.slice x1 a1.length c1, .slice x2 b1.length c2, .bool true] 31) (.cells #[.slice x3 a2.length c3, .slice x4 b2.length c4, .bool false] 31) (.cells #[.slice none 0 0, .slice none 0 0, .bool false] 31)
  generalize hW3 : ((w.alloc (.cells #[.slice x1 a1.length c1, .slice x2 b1.length c2, .bool true] 31)).alloc (.cells #[.slice x3 a2.length c3, .slice x4 b2.length c4, .bool false] 31)).alloc (.cells #[.slice none 0 0, .slice none 0 0, .bool false] 31) = W3 at *
  have z4 : W3.heap.size = w.heap.size + 1 + 1 + 1 := z3
  have p0 : W3.cell? ⟨w.heap.size, 0, none⟩ = some (.slice x1 a1.length c1) := by rw [cell_row _ _ _ _ _ _ z0]; rfl
  have p1 : W3.cell? ⟨w.heap.size, 2, none⟩ = some (.bool true) := by rw [cell_row _ _ _ _ _ _ z0]; rfl
  have p2 : W3.cell? ⟨w.heap.size + 1, 2, none⟩ = some (.bool false) := by rw [cell_row _ _ _ _ _ _ z1]; rfl
  have y0 := fun X => (old_cells z0 X).1
  have y1 := fun X => (old_cells z0 X).2.1
  have y2 := fun X => (old_cells z0 X).2.2
  have y3 := fun X => (old_cells z1 X).1
  have y4 := fun X => (old_cells z1 X).2.1
  have y5 := fun X => (old_cells z1 X).2.2
  obtain ⟨g1, g2, g3, g4, g5, g6, g7⟩ := res_facts z2
  have hbX : ∀ X, Below w.heap.size w (W3.alloc X) := fun X => hb3.alloc (by omega) _
  have u1 := fun X => str4 (h1.new (hbX X))
  have u2 := fun X => str4 (h2.new (hbX X))
  have u3 := fun X => str4 (h3.new (hbX X))
  have u4 := fun X => str4 (h4.new (hbX X))
  have hfin : ∀ (u v x : Value) (X : Obj), Below w.heap.size w ((((W3.setCell ⟨w.heap.size + 1 + 1, 0, none⟩ u).setCell ⟨w.heap.size + 1 + 1, 1, none⟩ v).setCell ⟨w.heap.size + 1 + 1, 2, none⟩ x).alloc X) := fun u v x X => (((hb3.setCell (by show _ ≤ w.heap.size + 1 + 1; omega) u).setCell (by show _ ≤ w.heap.size + 1 + 1; omega) v).setCell (by show _ ≤ w.heap.size + 1 + 1; omega) x).alloc (by simp [World.setCell]; omega) X
  have HG := hid g7
  have HFIN := hid hfin
  have H1 := hid h1
  have H2 := hid h2
  have H3 := hid h3
  have H4 := hid h4
  clear h1 h2 h3 h4 hb3 hbX z0 z1 z2 z3 g7 hfin
  generalize str8 a1 = S1 at *
  generalize str8 b1 = S2 at *
  generalize str8 a2 = S3 at *
  generalize str8 b2 = S4 at *
  go_enter Tryd.func15, Tryd.ntmps15
  go_wp2
  refine bodyPost_ret (v := .agg #[.slice x3 a2.length c3, .slice x2 b1.length c2, .bool true]) (results_cell_row (p := 4) (ty := 31) rfl _ _ (w.heap.size + 1 + 1) 31 _ (0, 0) _ rfl (HG.out _ _ _ _) Tryd.underlying31 rfl Tryd.infoSpan) rfl ⟨_, _, rfl, H3.out.new (HFIN.out _ _ _ _), H2.out.new (HFIN.out _ _ _ _), HFIN.out _ _ _ _⟩

set_option maxHeartbeats 1000000 in
theorem ymeet_1110 (x1 x2 x3 x4 : Option Addr) (c1 c2 c3 c4 : Nat) (a1 b1 a2 b2 : List UInt8) (w : World) (h1 : Says w (.slice x1 a1.length c1) a1) (h2 : Says w (.slice x2 b1.length c2) b1) (h3 : Says w (.slice x3 a2.length c3) a2) (h4 : Says w (.slice x4 b2.length c4) b2)
    (l e : Bool) (q0 : Op.bytesLess (str8 a2).toList (str8 a1).toList = l) (q1 : ((str8 a2).toList == (str8 a1).toList) = e) (q3 : (l || e) = false) (q2 : Op.bytesLess (str8 b2).toList (str8 b1).toList = false) :
    Calls Tryd.prog 15 #[.agg #[.slice x1 a1.length c1, .slice x2 b1.length c2, .bool true], .agg #[.slice x3 a2.length c3, .slice x4 b2.length c4, .bool true]] w fun e w' => ∃ fv tv, e = .returned (.agg #[fv, tv, .bool true]) ∧ Says w' fv a2 ∧ Says w' tv b1 ∧ Below w.heap.size w w' := by
  obtain ⟨z0, z1, z2, hb3, z3⟩ := alloc3 w (.cells #[.slice x1 a1.length c1, .slice x2 b1.length c2, .bool true] 31) (.cells #[.slice x3 a2.length c3, .slice x4 b2.length c4, .bool true] 31) (.cells #[.slice none 0 0, .slice none 0 0, .bool false] 31)
  generalize hW3 : ((w.alloc (.cells #[.slice x1 a1.length c1, .slice x2 b1.length c2, .bool true] 31)).alloc (.cells #[.slice x3 a2.length c3, .slice x4 b2.length c4, .bool true] 31)).alloc (.cells #[.slice none 0 0, .slice none 0 0, .bool false] 31) = W3 at *
  have z4 : W3.heap.size = w.heap.size + 1 + 1 + 1 := z3
  have p0 : W3.cell? ⟨w.heap.size, 0, none⟩ = some (.slice x1 a1.length c1) := by rw [cell_row _ _ _ _ _ _ z0]; rfl
  have p1 : W3.cell? ⟨w.heap.size, 2, none⟩ = some (.bool true) := by rw [cell_row _ _ _ _ _ _ z0]; rfl
  have p2 : W3.cell? ⟨w.heap.size + 1, 2, none⟩ = some (.bool true) := by rw [cell_row _ _ _ _ _ _ z1]; rfl
  have y0 := fun X => (old_cells z0 X).1
  have y1 := fun X => (old_cells z0 X).2.1
  have y2 := fun X => (old_cells z0 X).2.2
  have y3 := fun X => (old_cells z1 X).1
  have y4 := fun X => (old_cells z1 X).2.1
  have y5 := fun X => (old_cells z1 X).2.2
  obtain ⟨g1, g2, g3, g4, g5, g6, g7⟩ := res_facts z2
  have hbX : ∀ X, Below w.heap.size w (W3.alloc X) := fun X => hb3.alloc (by omega) _
  have u1 := fun X => str4 (h1.new (hbX X))
  have u2 := fun X => str4 (h2.new (hbX X))
  have u3 := fun X => str4 (h3.new (hbX X))
  have u4 := fun X => str4 (h4.new (hbX X))
  have hfin : ∀ (u v x : Value) (X : Obj), Below w.heap.size w ((((W3.setCell ⟨w.heap.size + 1 + 1, 0, none⟩ u).setCell ⟨w.heap.size + 1 + 1, 1, none⟩ v).setCell ⟨w.heap.size + 1 + 1, 2, none⟩ x).alloc X) := fun u v x X => (((hb3.setCell (by show _ ≤ w.heap.size + 1 + 1; omega) u).setCell (by show _ ≤ w.heap.size + 1 + 1; omega) v).setCell (by show _ ≤ w.heap.size + 1 + 1; omega) x).alloc (by simp [World.setCell]; omega) X
  have HG := hid g7
  have HFIN := hid hfin
  have H1 := hid h1
  have H2 := hid h2
  have H3 := hid h3
  have H4 := hid h4
  clear h1 h2 h3 h4 hb3 hbX z0 z1 z2 z3 g7 hfin
  generalize str8 a1 = S1 at *
  generalize str8 b1 = S2 at *
  generalize str8 a2 = S3 at *
  generalize str8 b2 = S4 at *
  go_enter Tryd.func15, Tryd.ntmps15
  go_wp2
  refine bodyPost_ret (v := .agg #[.slice x3 a2.length c3, .slice x2 b1.length c2, .bool true]) (results_cell_row (p := 4) (ty := 31) rfl _ _ (w.heap.size + 1 + 1) 31 _ (0, 0) _ rfl (HG.out _ _ _ _) Tryd.underlying31 rfl Tryd.infoSpan) rfl ⟨_, _, rfl, H3.out.new (HFIN.out _ _ _ _), H2.out.new (HFIN.out _ _ _ _), HFIN.out _ _ _ _⟩

set_option maxHeartbeats 1000000 in
theorem ymeet_1111 (x1 x2 x3 x4 : Option Addr) (c1 c2 c3 c4 : Nat) (a1 b1 a2 b2 : List UInt8) (w : World) (h1 : Says w (.slice x1 a1.length c1) a1) (h2 : Says w (.slice x2 b1.length c2) b1) (h3 : Says w (.slice x3 a2.length c3) a2) (h4 : Says w (.slice x4 b2.length c4) b2)
    (l e : Bool) (q0 : Op.bytesLess (str8 a2).toList (str8 a1).toList = l) (q1 : ((str8 a2).toList == (str8 a1).toList) = e) (q3 : (l || e) = false) (q2 : Op.bytesLess (str8 b2).toList (str8 b1).toList = true) :
    Calls Tryd.prog 15 #[.agg #[.slice x1 a1.length c1, .slice x2 b1.length c2, .bool true], .agg #[.slice x3 a2.length c3, .slice x4 b2.length c4, .bool true]] w fun e w' => ∃ fv tv, e = .returned (.agg #[fv, tv, .bool true]) ∧ Says w' fv a2 ∧ Says w' tv b2 ∧ Below w.heap.size w w' := by
  obtain ⟨z0, z1, z2, hb3, z3⟩ := alloc3 w (.cells #[.slice x1 a1.length c1, .slice x2 b1.length c2, .bool true] 31) (.cells #[.slice x3 a2.length c3, .slice x4 b2.length c4, .bool true] 31) (.cells #[.slice none 0 0, .slice none 0 0, .bool false] 31)
  generalize hW3 : ((w.alloc (.cells #[.slice x1 a1.length c1, .slice x2 b1.length c2, .bool true] 31)).alloc (.cells #[.slice x3 a2.length c3, .slice x4 b2.length c4, .bool true] 31)).alloc (.cells #[.slice none 0 0, .slice none 0 0, .bool false] 31) = W3 at *
  have z4 : W3.heap.size = w.heap.size + 1 + 1 + 1 := z3
  have p0 : W3.cell? ⟨w.heap.size, 0, none⟩ = some (.slice x1 a1.length c1) := by rw [cell_row _ _ _ _ _ _ z0]; rfl
  have p1 : W3.cell? ⟨w.heap.size, 2, none⟩ = some (.bool true) := by rw [cell_row _ _ _ _ _ _ z0]; rfl
  have p2 : W3.cell? ⟨w.heap.size + 1, 2, none⟩ = some (.bool true) := by rw [cell_row _ _ _ _ _ _ z1]; rfl
  have y0 := fun X => (old_cells z0 X).1
  have y1 := fun X => (old_cells z0 X).2.1
  have y2 := fun X => (old_cells z0 X).2.2
  have y3 := fun X => (old_cells z1 X).1
  have y4 := fun X => (old_cells z1 X).2.1
  have y5 := fun X => (old_cells z1 X).2.2
  obtain ⟨g1, g2, g3, g4, g5, g6, g7⟩ := res_facts z2
  have hbX : ∀ X, Below w.heap.size w (W3.alloc X) := fun X => hb3.alloc (by omega) _
  have u1 := fun X => str4 (h1.new (hbX X))
  have u2 := fun X => str4 (h2.new (hbX X))
  have u3 := fun X => str4 (h3.new (hbX X))
  have u4 := fun X => str4 (h4.new (hbX X))
  have hfin : ∀ (u v x : Value) (X : Obj), Below w.heap.size w ((((W3.setCell ⟨w.heap.size + 1 + 1, 0, none⟩ u).setCell ⟨w.heap.size + 1 + 1, 1, none⟩ v).setCell ⟨w.heap.size + 1 + 1, 2, none⟩ x).alloc X) := fun u v x X => (((hb3.setCell (by show _ ≤ w.heap.size + 1 + 1; omega) u).setCell (by show _ ≤ w.heap.size + 1 + 1; omega) v).setCell (by show _ ≤ w.heap.size + 1 + 1; omega) x).alloc (by simp [World.setCell]; omega) X
  have HG := hid g7
  have HFIN := hid hfin
  have H1 := hid h1
  have H2 := hid h2
  have H3 := hid h3
  have H4 := hid h4
  clear h1 h2 h3 h4 hb3 hbX z0 z1 z2 z3 g7 hfin
  generalize str8 a1 = S1 at *
  generalize str8 b1 = S2 at *
  generalize str8 a2 = S3 at *
  generalize str8 b2 = S4 at *
  go_enter Tryd.func15, Tryd.ntmps15
  go_wp2
  refine bodyPost_ret (v := .agg #[.slice x3 a2.length c3, .slice x4 b2.length c4, .bool true]) (results_cell_row (p := 4) (ty := 31) rfl _ _ (w.heap.size + 1 + 1) 31 _ (0, 0) _ rfl (HG.out _ _ _ _) Tryd.underlying31 rfl Tryd.infoSpan) rfl ⟨_, _, rfl, H3.out.new (HFIN.out _ _ _ _), H4.out.new (HFIN.out _ _ _ _), HFIN.out _ _ _ _⟩

theorem ymeet_any (f1 t1 f2 t2 : Value) (e1 e2 : Bool) (a1 b1 a2 b2 : List UInt8) (w : World) (h1 : Says w f1 a1) (h2 : Says w t1 b1) (h3 : Says w f2 a2) (h4 : Says w t2 b2) :
    Calls Tryd.prog 15 #[.agg #[f1, t1, .bool e1], .agg #[f2, t2, .bool e2]] w fun e w' => ∃ fv tv, e = .returned (.agg #[fv, tv, .bool (meetP ⟨a1, b1, e1⟩ ⟨a2, b2, e2⟩).en]) ∧ Says w' fv (meetP ⟨a1, b1, e1⟩ ⟨a2, b2, e2⟩).a ∧ Says w' tv (meetP ⟨a1, b1, e1⟩ ⟨a2, b2, e2⟩).b ∧ Below w.heap.size w w' := by
  obtain ⟨x1, c1, rfl, _⟩ := id h1
  obtain ⟨x2, c2, rfl, _⟩ := id h2
  obtain ⟨x3, c3, rfl, _⟩ := id h3
  obtain ⟨x4, c4, rfl, _⟩ := id h4
  simp only [meetP, meetA, meetB]
  obtain ⟨r1, hr1⟩ : ∃ r, Op.bytesLess a1 a2 = r := ⟨_, rfl⟩
  obtain ⟨r2, hr2⟩ : ∃ r, Op.bytesLess b2 b1 = r := ⟨_, rfl⟩
  rw [hr1, hr2]
  obtain ⟨l, hl⟩ : ∃ r, Op.bytesLess a2 a1 = r := ⟨_, rfl⟩
  have q0 : Op.bytesLess (str8 a2).toList (str8 a1).toList = l := by rw [str8_toList, str8_toList]; exact hl
  have q1 := str_beqV a2 a1
  have q2 : Op.bytesLess (str8 b2).toList (str8 b1).toList = r2 := by rw [str8_toList, str8_toList]; exact hr2
  have q3 : (l || decide (a2 = a1)) = !r1 := by
    cases r1 with
    | true =>
      have h1' := less_asymmP hr1
      rw [hl] at h1'
      rw [h1']
      have : a2 ≠ a1 := fun e => by rw [e, less_self] at hr1; cases hr1
      simp [this]
    | false =>
      cases l with
      | true => rfl
      | false =>
        have := less_neither _ _ hl hr1
        simp [this]
  cases r1 <;> cases e1 <;> cases e2 <;> cases r2
  · exact ymeet_0000 x1 x2 x3 x4 c1 c2 c3 c4 a1 b1 a2 b2 w h1 h2 h3 h4 l _ q0 q1 q3 q2
  · exact ymeet_0001 x1 x2 x3 x4 c1 c2 c3 c4 a1 b1 a2 b2 w h1 h2 h3 h4 l _ q0 q1 q3 q2
  · exact ymeet_0010 x1 x2 x3 x4 c1 c2 c3 c4 a1 b1 a2 b2 w h1 h2 h3 h4 l _ q0 q1 q3 q2
  · exact ymeet_0011 x1 x2 x3 x4 c1 c2 c3 c4 a1 b1 a2 b2 w h1 h2 h3 h4 l _ q0 q1 q3 q2
  · exact ymeet_0100 x1 x2 x3 x4 c1 c2 c3 c4 a1 b1 a2 b2 w h1 h2 h3 h4 l _ q0 q1 q3 q2
  · exact ymeet_0101 x1 x2 x3 x4 c1 c2 c3 c4 a1 b1 a2 b2 w h1 h2 h3 h4 l _ q0 q1 q3 q2
  · exact ymeet_0110 x1 x2 x3 x4 c1 c2 c3 c4 a1 b1 a2 b2 w h1 h2 h3 h4 l _ q0 q1 q3 q2
  · exact ymeet_0111 x1 x2 x3 x4 c1 c2 c3 c4 a1 b1 a2 b2 w h1 h2 h3 h4 l _ q0 q1 q3 q2
  · exact ymeet_1000 x1 x2 x3 x4 c1 c2 c3 c4 a1 b1 a2 b2 w h1 h2 h3 h4 l _ q0 q1 q3 q2
  · exact ymeet_1001 x1 x2 x3 x4 c1 c2 c3 c4 a1 b1 a2 b2 w h1 h2 h3 h4 l _ q0 q1 q3 q2
  · exact ymeet_1010 x1 x2 x3 x4 c1 c2 c3 c4 a1 b1 a2 b2 w h1 h2 h3 h4 l _ q0 q1 q3 q2
  · exact ymeet_1011 x1 x2 x3 x4 c1 c2 c3 c4 a1 b1 a2 b2 w h1 h2 h3 h4 l _ q0 q1 q3 q2
  · exact ymeet_1100 x1 x2 x3 x4 c1 c2 c3 c4 a1 b1 a2 b2 w h1 h2 h3 h4 l _ q0 q1 q3 q2
  · exact ymeet_1101 x1 x2 x3 x4 c1 c2 c3 c4 a1 b1 a2 b2 w h1 h2 h3 h4 l _ q0 q1 q3 q2
  · exact ymeet_1110 x1 x2 x3 x4 c1 c2 c3 c4 a1 b1 a2 b2 w h1 h2 h3 h4 l _ q0 q1 q3 q2
  · exact ymeet_1111 x1 x2 x3 x4 c1 c2 c3 c4 a1 b1 a2 b2 w h1 h2 h3 h4 l _ q0 q1 q3 q2

end Go.Proofs.YthjgbcbgkafgjaaDoor
