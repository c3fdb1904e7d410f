/- Two proofs that say the same are told to be the same. -/
import Derived.Test.YthkeofinamedfaaDoorRef4P
import Derived.Test.YthkeofinamedfaaDoorPathsP
import Derived.Test.YthkeofinamedfaaDoorEqD
namespace Go.Proofs.YthkeofinamedfaaDoor
open Go.RowKit Go.Shelf
set_option linter.unusedVariables false
set_option linter.unusedSimpArgs false
set_option maxRecDepth 20000

theorem run_load_at (w : World) (g k n : Nat) (ty : TypeId) (cs : List Value) (d : TypeDesc) (hc : ∀ j v, cs[j]? = some v → w.cell? ⟨g, k + j, none⟩ = some v)
    (hu : Tryd.prog.underlying ty = some d) (hd : (match d with | .struct _ | .array _ _ => true | _ => false) = true) (hi : (Tryd.prog.info? ty).map (·.size) = some cs.length) :
    (loadVar ty ⟨g, k, none⟩).run Tryd.prog w = .ok (.agg cs.toArray) w := by
  have hl : (loadCells ⟨g, k, none⟩ cs.length).run Tryd.prog w = .ok cs.toArray w :=
    run_loadCells_list (P := Tryd.prog) w ⟨g, k, none⟩ cs (fun j v hv => by
      have hadd : (⟨g, k, none⟩ : Addr).add j = ⟨g, k + j, none⟩ := by unfold Addr.add; split <;> simp_all
      rw [hadd]
      exact hc j v hv)
  cases hq : Tryd.prog.info? ty with
  | none => simp [hq] at hi
  | some i =>
    have hs : i.size = cs.length := by simpa [hq] using hi
    have hagg : (isAgg ty).run Tryd.prog w = .ok true w := by
      unfold isAgg
      rw [Sem.run_bind, run_underlying hu w]
      cases d <;> simp_all
    simp [loadVar, Sem.run_bind, hagg, sizeOf, typeInfo, hq, hs, hl]

theorem wpList_load_at {ops : Array Oper} {rest : List Oper} {o : Oper} {a : Act} {w : World} {Q : Exit → Act → World → Prop} (hw : Region.wanted o (yielded ops a.tmps) = true) (ty : TypeId) (x : Operand) (ho : o.op = .load ty x)
    (q : Addr) (hx : a.eval x = .pointer (some q)) (A : Array Value) (hr : (loadVar ty q).run Tryd.prog w = .ok (.agg A) w)
    (h : wpList Tryd.prog ops Q rest (a.put o.dst (.agg A)) w) : wpList Tryd.prog ops Q (o :: rest) a w := by
  unfold wpList
  rw [if_pos hw]
  refine Or.inl ?_
  unfold Oper.wp execOp
  simp only [ho, hx, Instr.loadAt, Instr.sureAddr, Sem.run_bind, Sem.run_pure, Result.andThen_ok, hr]
  exact h

theorem flat_step : ∀ (L : List Stp) (j : Nat) (s : Stp), (∀ s ∈ L, s.2.2.length = 32) → L[j]? = some s → ∀ (i : Nat) (v : Value), (stepC s)[i]? = some v → (L.flatMap stepC)[j * 34 + i]? = some v
  | [], j, s, h, hj => by simp at hj
  | x :: r, 0, s, h, hj => by
    intro i v hv
    simp at hj
    subst hj
    have hi := (List.getElem?_eq_some_iff.1 hv).1
    simp only [List.flatMap_cons, Nat.zero_mul, Nat.zero_add]
    rw [List.getElem?_append_left hi]
    exact hv
  | x :: r, j + 1, s, h, hj => by
    intro i v hv
    have hx : (stepC x).length = 34 := by simp [stepC, h x (by simp)]
    have ih := flat_step r j s (fun y hy => h y (by simp [hy])) (by simpa using hj) i v hv
    simp only [List.flatMap_cons]
    rw [List.getElem?_append_right (by rw [hx]; omega), hx, show (j + 1) * 34 + i - 34 = j * 34 + i by omega]
    exact ih

theorem stepC_length (s : Stp) (h : s.2.2.length = 32) : (stepC s).length = 34 := by simp [stepC, h]

theorem Tryd.infoStep5 : (Tryd.prog.info? 62).map (·.size) = some 34 := by kernel_rfl

/-- A step of a row of steps, loaded whole. -/
theorem load_step {w : World} {B g n c : Nat} {L : List Stp} (hL : ∀ s ∈ L, s.2.2.length = 32) (h : w.ownsRow B 62 34 (.slice (some ⟨g, 0, none⟩) n c) n (L.flatMap stepC)) (hn : L.length = n) (j : Nat) (s : Stp) (hj : L[j]? = some s) :
    (loadVar 62 ⟨g, j * 34, none⟩).run Tryd.prog w = .ok (.agg (stepC s).toArray) w := by
  have hjl : j < n := by have := (List.getElem?_eq_some_iff.1 hj).1; omega
  have hm := hL s (List.mem_of_getElem? hj)
  refine run_load_at w g (j * 34) 34 62 (stepC s) _ (fun i v hv => ?_) Tryd.underlying62 rfl (by rw [stepC_length s hm]; exact Tryd.infoStep5)
  have hi := (List.getElem?_eq_some_iff.1 hv).1
  rw [stepC_length s hm] at hi
  exact (h.cellAt (j * 34 + i) (by omega)).trans (flat_step L j s hL hj i v hv)

theorem Tryd.fieldsStep : Tryd.prog.underlying 62 = some (.struct (Tryd.prog.fieldsOf 62)) := by kernel_rfl
theorem Tryd.stoodStep : Tryd.prog.stoodInHeld 62 = false := by kernel_rfl

theorem form34 {w : World} {B n : Nat} {v : Value} {xs : List Value} (h : w.ownsRow B 62 34 v n xs) : ∃ a c, v = .slice a n c := by
  rcases h.2 with ⟨rfl, h0⟩ | ⟨g, cap, cur, rfl, _⟩
  · exact ⟨none, 0, by rw [h0]⟩
  · exact ⟨_, _, rfl⟩

theorem ents_one {W : World} {g : Nat} {kv vv : Value} {k v : List UInt8} (hg : W.heap[g]? = some (.cells #[kv, vv] 52 (0, 0))) (h1 : Says W kv k) (h2 : Says W vv v) : Ents W.heap.size W (.slice (some ⟨g, 0, none⟩) 1 1) [⟨kv, vv, k, v⟩] := by
  refine ⟨_, 1, rfl, Nat.le_refl _, by unfold maxLen; omega, fun _ => ⟨g, 0, rfl, (Array.getElem?_eq_some_iff.1 hg).1, fun j x hx => ?_⟩⟩
  have hj : j = 0 := by have := (List.getElem?_eq_some_iff.1 hx).1; simpa using this
  subst hj
  simp only [List.getElem?_cons_zero, Option.some.injEq] at hx
  subst hx
  exact ⟨by simp [World.cell?, hg], by simp [World.cell?, hg], h1, h2⟩

theorem size_alloc1 (w : World) (A : Obj) : (w.alloc A).heap.size = w.heap.size + 1 := by
  show (w.heap.push A).size = _
  simp

theorem four_blocks (w : World) (A B C D : Obj) : ((((w.alloc A).alloc B).alloc C).alloc D).heap[w.heap.size]? = some A ∧ ((((w.alloc A).alloc B).alloc C).alloc D).heap[w.heap.size + 1]? = some B ∧ ((((w.alloc A).alloc B).alloc C).alloc D).heap[w.heap.size + 1 + 1]? = some C ∧ ((((w.alloc A).alloc B).alloc C).alloc D).heap[w.heap.size + 1 + 1 + 1]? = some D ∧ Below w.heap.size w ((((w.alloc A).alloc B).alloc C).alloc D) := by
  have e1 : (w.alloc A).heap.size = w.heap.size + 1 := size_alloc1 _ _
  have e2 : ((w.alloc A).alloc B).heap.size = w.heap.size + 1 + 1 := by simp only [size_alloc1]
  have e3 : (((w.alloc A).alloc B).alloc C).heap.size = w.heap.size + 1 + 1 + 1 := by simp only [size_alloc1]
  have old : ∀ (w : World) (o : Obj) (i : Nat), i < w.heap.size → (w.alloc o).heap[i]? = w.heap[i]? := fun w o i h => by
    show (w.heap.push o)[i]? = w.heap[i]?
    rw [Array.getElem?_push, if_neg (Nat.ne_of_lt h)]
  refine ⟨?_, ?_, ?_, ?_, ?_⟩
  · rw [old _ _ _ (by omega), old _ _ _ (by omega), old _ _ _ (by omega), heap_alloc_new]
  · rw [old _ _ _ (by omega), old _ _ _ (by omega), ← e1, heap_alloc_new]
  · rw [old _ _ _ (by omega), ← e2, heap_alloc_new]
  · rw [← e3, heap_alloc_new]
  · exact Below.alloc (Below.alloc (Below.alloc (Below.alloc (Below.refl _ _) (by omega) _) (by omega) _) (by omega) _) (by omega) _
end Go.Proofs.YthkeofinamedfaaDoor
