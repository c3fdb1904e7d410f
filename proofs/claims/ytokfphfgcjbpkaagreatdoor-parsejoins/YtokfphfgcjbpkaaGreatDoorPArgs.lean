/- Expressions in memory; contracts of of, col, literal, null. -/
import Derived.Test.YtokfphfgcjbpkaaGreatDoorPMust
namespace Go.Proofs.YtokfphfgcjbpkaaGreatDoor
open Go.RowKit Go.Shelf
set_option linter.unusedVariables false
set_option linter.unusedSimpArgs false
set_option maxRecDepth 20000

/-- WHAT AN EXPRESSION IS OF, in blocks of S. -/
inductive ArgsAt (S : Nat → Prop) (w : World) : List Ex → Value → Prop
  | nil (a : Option Addr) (c : Nat) (hc : c ≤ maxLen) : ArgsAt S w [] (.slice a 0 c)
  | cons (xs : List Ex) (b off c : Nat) (avs : Nat → Value) (hne : xs ≠ []) (hS : S b) (hl : xs.length ≤ c) (hc : c ≤ maxLen)
      (hcell : ∀ (j : Nat) (k op : Int) (tb nm : List UInt8) (vk vn : Int) (vs : List UInt8) (ys : List Ex), xs[j]? = some (.mk k op tb nm ⟨vk, vn, vs⟩ ys) →
        w.cell? ⟨b, off + j * 8, none⟩ = some (.int .i64 k) ∧ w.cell? ⟨b, off + j * 8 + 1, none⟩ = some (.int .i64 op) ∧ w.cell? ⟨b, off + j * 8 + 2, none⟩ = some (.string (str8 tb)) ∧ w.cell? ⟨b, off + j * 8 + 3, none⟩ = some (.string (str8 nm)) ∧
        w.cell? ⟨b, off + j * 8 + 4, none⟩ = some (.int .i64 vk) ∧ w.cell? ⟨b, off + j * 8 + 5, none⟩ = some (.int .i64 vn) ∧ w.cell? ⟨b, off + j * 8 + 6, none⟩ = some (.string (str8 vs)) ∧ w.cell? ⟨b, off + j * 8 + 7, none⟩ = some (avs j))
      (hrec : ∀ (j : Nat) (k op : Int) (tb nm : List UInt8) (vk vn : Int) (vs : List UInt8) (ys : List Ex), xs[j]? = some (.mk k op tb nm ⟨vk, vn, vs⟩ ys) → ArgsAt S w ys (avs j)) :
      ArgsAt S w xs (.slice (some ⟨b, off, none⟩) xs.length c)

theorem ArgsAt.to {S R T : Nat → Prop} {w w' : World} {xs : List Ex} {v : Value} (h : ArgsAt S w xs v) (hk : Spares R w w') (hS : ∀ b, S b → b < w.heap.size → ¬ R b ∧ T b) : ArgsAt T w' xs v := by
  induction h with
  | nil a c hc => exact .nil a c hc
  | cons xs b off c avs hne hSb hl hc hcell hrec ih =>
    have hb : b < w.heap.size := by
      cases xs with
      | nil => exact absurd rfl hne
      | cons x l =>
        obtain ⟨k, op, tb, nm, ⟨vk, vn, vs⟩, ys⟩ := x
        exact World.block_lt_of_cell? w _ (hcell 0 k op tb nm vk vn vs ys rfl).1
    obtain ⟨h1, h2⟩ := hS b hSb hb
    refine .cons xs b off c avs hne h2 hl hc (fun j k op tb nm vk vn vs ys hj => ?_) ih
    obtain ⟨c0, c1, c2, c3, c4, c5, c6, c7⟩ := hcell j k op tb nm vk vn vs ys hj
    exact ⟨hk.cell c0 h1, hk.cell c1 h1, hk.cell c2 h1, hk.cell c3 h1, hk.cell c4 h1, hk.cell c5 h1, hk.cell c6 h1, hk.cell c7 h1⟩

theorem ArgsAt.form {S : Nat → Prop} {w : World} {xs : List Ex} {v : Value} (h : ArgsAt S w xs v) : ∃ a c, v = .slice a xs.length c ∧ c ≤ maxLen := by
  cases h with
  | nil a c hc => exact ⟨a, c, rfl, hc⟩
  | cons xs b off c avs hne hS hl hc hcell hrec => exact ⟨_, c, rfl, hc⟩

/-- AN EXPRESSION AS A VALUE, its blocks in S. -/
def ExV (S : Nat → Prop) (w : World) (x : Ex) (v : Value) : Prop :=
  ∃ (k op : Int) (tb nm : List UInt8) (vk vn : Int) (vs : List UInt8) (ys : List Ex) (aa : Option Addr) (nn cc : Nat), x = .mk k op tb nm ⟨vk, vn, vs⟩ ys ∧ v = .agg #[.int .i64 k, .int .i64 op, .string (str8 tb), .string (str8 nm), .int .i64 vk, .int .i64 vn, .string (str8 vs), .slice aa nn cc] ∧ ArgsAt S w ys (.slice aa nn cc)

theorem ExV.to {S R T : Nat → Prop} {w w' : World} {x : Ex} {v : Value} (h : ExV S w x v) (hk : Spares R w w') (hS : ∀ b, S b → b < w.heap.size → ¬ R b ∧ T b) : ExV T w' x v := by
  obtain ⟨k, op, tb, nm, vk, vn, vs, ys, aa, nn, cc, h1, h2, h3⟩ := h
  exact ⟨k, op, tb, nm, vk, vn, vs, ys, aa, nn, cc, h1, h2, h3.to hk hS⟩

theorem cells8 {w : World} {g : Nat} {a b c d e f i j : Value} {t : TypeId} {fr : Nat × Nat} (h : w.heap[g]? = some (.cells #[a, b, c, d, e, f, i, j] t fr)) :
    w.cell? ⟨g, 0, none⟩ = some a ∧ w.cell? ⟨g, 1, none⟩ = some b ∧ w.cell? ⟨g, 2, none⟩ = some c ∧ w.cell? ⟨g, 3, none⟩ = some d ∧ w.cell? ⟨g, 4, none⟩ = some e ∧ w.cell? ⟨g, 5, none⟩ = some f ∧ w.cell? ⟨g, 6, none⟩ = some i ∧ w.cell? ⟨g, 7, none⟩ = some j :=
  ⟨by rw [cell_row _ _ _ _ _ _ h]; rfl, by rw [cell_row _ _ _ _ _ _ h]; rfl, by rw [cell_row _ _ _ _ _ _ h]; rfl, by rw [cell_row _ _ _ _ _ _ h]; rfl, by rw [cell_row _ _ _ _ _ _ h]; rfl, by rw [cell_row _ _ _ _ _ _ h]; rfl, by rw [cell_row _ _ _ _ _ _ h]; rfl, by rw [cell_row _ _ _ _ _ _ h]; rfl⟩

/-- One expression in a new block. -/
theorem args_one {S : Nat → Prop} {w : World} {b : Nat} {k op : Int} {tb nm : List UInt8} {vk vn : Int} {vs : List UInt8} {ys : List Ex} {av : Value} {t : TypeId} (hS : S b)
    (hb : w.heap[b]? = some (.cells #[.int .i64 k, .int .i64 op, .string (str8 tb), .string (str8 nm), .int .i64 vk, .int .i64 vn, .string (str8 vs), av] t)) (ha : ArgsAt S w ys av) :
    ArgsAt S w [.mk k op tb nm ⟨vk, vn, vs⟩ ys] (.slice (some ⟨b, 0, none⟩) 1 1) := by
  refine ArgsAt.cons (S := S) (w := w) [.mk k op tb nm ⟨vk, vn, vs⟩ ys] b 0 1 (fun _ => av) (by simp) hS (by simp) (by unfold maxLen; omega) ?_ ?_
  · intro j k' op' tb' nm' vk' vn' vs' ys' hj
    match j, hj with
    | 0, hj =>
      simp only [List.getElem?_cons_zero, Option.some.injEq, Ex.mk.injEq, Vl.mk.injEq] at hj
      obtain ⟨rfl, rfl, rfl, rfl, ⟨rfl, rfl, rfl⟩, rfl⟩ := hj
      simpa using cells8 hb
  · intro j k' op' tb' nm' vk' vn' vs' ys' hj
    match j, hj with
    | 0, hj =>
      simp only [List.getElem?_cons_zero, Option.some.injEq, Ex.mk.injEq, Vl.mk.injEq] at hj
      obtain ⟨rfl, rfl, rfl, rfl, ⟨rfl, rfl, rfl⟩, rfl⟩ := hj
      exact ha

/-- Two expressions in a new block. -/
theorem args_two {S : Nat → Prop} {w : World} {b : Nat} {k op : Int} {tb nm : List UInt8} {vk vn : Int} {vs : List UInt8} {ys : List Ex} {av : Value} {k2 op2 : Int} {tb2 nm2 : List UInt8} {vk2 vn2 : Int} {vs2 : List UInt8} {ys2 : List Ex} {av2 : Value} {t : TypeId} (hS : S b)
    (hb : w.heap[b]? = some (.cells #[.int .i64 k, .int .i64 op, .string (str8 tb), .string (str8 nm), .int .i64 vk, .int .i64 vn, .string (str8 vs), av, .int .i64 k2, .int .i64 op2, .string (str8 tb2), .string (str8 nm2), .int .i64 vk2, .int .i64 vn2, .string (str8 vs2), av2] t)) (ha : ArgsAt S w ys av) (ha2 : ArgsAt S w ys2 av2) :
    ArgsAt S w [.mk k op tb nm ⟨vk, vn, vs⟩ ys, .mk k2 op2 tb2 nm2 ⟨vk2, vn2, vs2⟩ ys2] (.slice (some ⟨b, 0, none⟩) 2 2) := by
  refine ArgsAt.cons (S := S) (w := w) [.mk k op tb nm ⟨vk, vn, vs⟩ ys, .mk k2 op2 tb2 nm2 ⟨vk2, vn2, vs2⟩ ys2] b 0 2 (fun j => if j = 0 then av else av2) (by simp) hS (by simp) (by unfold maxLen; omega) ?_ ?_
  · intro j k' op' tb' nm' vk' vn' vs' ys' hj
    have cl := fun i => cell_of_row w b i _ _ _ hb
    match j, hj with
    | 0, hj =>
      simp only [List.getElem?_cons_zero, Option.some.injEq, Ex.mk.injEq, Vl.mk.injEq] at hj
      obtain ⟨rfl, rfl, rfl, rfl, ⟨rfl, rfl, rfl⟩, rfl⟩ := hj
      simp [cl]
    | 1, hj =>
      simp only [List.getElem?_cons_succ, List.getElem?_cons_zero, Option.some.injEq, Ex.mk.injEq, Vl.mk.injEq] at hj
      obtain ⟨rfl, rfl, rfl, rfl, ⟨rfl, rfl, rfl⟩, rfl⟩ := hj
      simp [cl]
  · intro j k' op' tb' nm' vk' vn' vs' ys' hj
    match j, hj with
    | 0, hj =>
      simp only [List.getElem?_cons_zero, Option.some.injEq, Ex.mk.injEq, Vl.mk.injEq] at hj
      obtain ⟨rfl, rfl, rfl, rfl, ⟨rfl, rfl, rfl⟩, rfl⟩ := hj
      exact ha
    | 1, hj =>
      simp only [List.getElem?_cons_succ, List.getElem?_cons_zero, Option.some.injEq, Ex.mk.injEq, Vl.mk.injEq] at hj
      obtain ⟨rfl, rfl, rfl, rfl, ⟨rfl, rfl, rfl⟩, rfl⟩ := hj
      exact ha2

theorem Spares.ofB {S : Nat → Prop} {w w' : World} (h : Below w.heap.size w w') : Spares S w w' := Spares.of_new h

/-- Three new blocks; the second and the third. -/
theorem three (w : World) (A B C : Obj) : ∃ W, ((w.alloc A).alloc B).alloc C = W ∧ Below w.heap.size w W ∧ W.heap[w.heap.size + 1]? = some B ∧ W.heap[w.heap.size + 1 + 1]? = some C := by
  refine ⟨_, rfl, (((Below.refl _ w).alloc (Nat.le_refl _) A).alloc (by simp) B).alloc (by simp; omega) C, ?_, ?_⟩
  · rw [Below.heap_alloc _ _ _ (by simp)]
    exact heap_alloc2_new w A B
  · have h := heap_alloc_new ((w.alloc A).alloc B) C
    have e : ((w.alloc A).alloc B).heap.size = w.heap.size + 1 + 1 := by simp
    rw [e] at h
    exact h

set_option maxHeartbeats 1000000 in
/-- of: an expression of one. -/
theorem of_any (S : Nat → Prop) (kind : Int) (x : Ex) (v : Value) (w : World) (hS : ∀ b, w.heap.size ≤ b → S b) (h : ExV S w x v) :
    Calls Tryz.prog 139 #[.int .i64 kind, v] w fun e w' => ∃ u, e = .returned u ∧ ExV S w' (exOf kind x) u ∧ Below w.heap.size w w' := by
  obtain ⟨k, op, tb, nm, vk, vn, vs, ys, aa, nn, cc, rfl, rfl, ha⟩ := h
  have HA := hid ha
  clear ha
  go_enter Tryz.func139, Tryz.ntmps139
  go_wp2
  obtain ⟨W, hW, hbW, hcW⟩ := three w (.cells #[.int .i64 k, .int .i64 op, .string (str8 tb), .string (str8 nm), .int .i64 vk, .int .i64 vn, .string (str8 vs), .slice aa nn cc] 40) (.cells #[.int .i64 kind, .int .i64 0, .string ⟨#[]⟩, .string ⟨#[]⟩, .int .i64 0, .int .i64 0, .string ⟨#[]⟩, .slice (some ⟨w.heap.size + 1 + 1, 0, none⟩) 1 1] 40) (.cells #[.int .i64 k, .int .i64 op, .string (str8 tb), .string (str8 nm), .int .i64 vk, .int .i64 vn, .string (str8 vs), .slice aa nn cc] 40)
  rw [hW]
  clear hW
  have kc := cells8 hcW.1
  refine bodyPost_ret (v := .agg #[.int .i64 kind, .int .i64 0, .string ⟨#[]⟩, .string ⟨#[]⟩, .int .i64 0, .int .i64 0, .string ⟨#[]⟩, .slice (some ⟨w.heap.size + 1 + 1, 0, none⟩) 1 1]) (by simp [results, Tryz.results139, go_sem, kc]) rfl ⟨_, rfl, ?_, hbW⟩
  refine ⟨kind, 0, [], [], 0, 0, [], _, _, _, _, rfl, rfl, args_one (hS _ (by omega)) hcW.2 (HA.out.to (R := fun _ => False) (Spares.of_new hbW) (fun b hb _ => ⟨id, hb⟩))⟩

/-- What a method that reads an expression does, at readers of which C is known. -/
def RdsE (F : Nat) (C : Rd → Prop) (f : Nat) (p : Pa Ex) : Prop :=
  ∀ (g : Nat) (r : Rd) (w : World), RdAt F w g r → C r → Calls Tryz.prog f #[.pointer (some ⟨g, 0, none⟩)] w fun e w' => ∃ u, e = .returned u ∧ ExV (fun b => w.heap.size ≤ b) w' (p r).1 u ∧ RdAt F w' g (p r).2 ∧ Fr g w w'

theorem cells8f {w : World} {g : Nat} {a b c d e f i j : Value} {t : TypeId} (h : w.heap[g]? = some (.cells #[a, b, c, d, e, f, i, j] t)) : (∀ i, w.frozen? ⟨g, i, none⟩ = false) ∧
    w.cell? ⟨g, 0, none⟩ = some a ∧ w.cell? ⟨g, 1, none⟩ = some b ∧ w.cell? ⟨g, 2, none⟩ = some c ∧ w.cell? ⟨g, 3, none⟩ = some d ∧ w.cell? ⟨g, 4, none⟩ = some e ∧ w.cell? ⟨g, 5, none⟩ = some f ∧ w.cell? ⟨g, 6, none⟩ = some i ∧ w.cell? ⟨g, 7, none⟩ = some j :=
  ⟨fun i => by simp [World.frozen?, h], cells8 h⟩

end Go.Proofs.YtokfphfgcjbpkaaGreatDoor
