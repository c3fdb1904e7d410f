/- A region's call and a new variable that may come either way round. Nothing of the program is named here. -/
import Derived.Test.YthkeofinamedfaaDoorDelP
namespace Go.Proofs.YthkeofinamedfaaDoor
open Go.RowKit
set_option linter.unusedVariables false
set_option maxRecDepth 20000

section
variable {P : Program} {md : Region.Mode} {ops : Array Oper} {Q : Exit → Act → World → Prop} {S : World → Prop} {fuel : Nat} {listed : Array Bool} {a : Act} {w : World} {i j k0 : Nat} {oi oj : Oper}

theorem takeE_two (hr : Region.ready md ops listed = [i, j]) (hi : ops[i]? = some oi) (hj : ops[j]? = some oj) (gi : oi.guard = none) (gj : oj.guard = none)
    (h1 : oi.wp P a w (fun a' w' => (S w' ∨ i = k0) ∧ wpAnyE P md ops Q S k0 fuel (listed.setIfInBounds i true) a' w') Q)
    (h2 : oj.wp P a w (fun a' w' => (S w' ∨ j = k0) ∧ wpAnyE P md ops Q S k0 fuel (listed.setIfInBounds j true) a' w') Q) : wpAnyE P md ops Q S k0 (fuel + 1) listed a w := by
  refine wpAnyE_all hr (by simp) fun k hk => ?_
  simp only [List.mem_cons, List.not_mem_nil, or_false] at hk
  rcases hk with rfl | rfl
  · unfold wpOp
    simp only [hi, show Region.wanted oi (yielded ops a.tmps) = true by simp [Region.wanted, gi], if_true]
    exact .inl h1
  · unfold wpOp
    simp only [hj, show Region.wanted oj (yielded ops a.tmps) = true by simp [Region.wanted, gj], if_true]
    exact .inl h2

theorem wp_call_of {f : FuncId} {xs : Array Operand} {ts : Array TypeId} {K : Act → World → Prop} (args : Array Value) (R : Value → World → Prop)
    (ki : oi.op = .call { callee := .value (.func f), args := xs, argTypes := ts }) (ea : xs.map a.eval = args) (ef : ∀ args w, (callFunc f args).run P w = .ok (.enter f args) w)
    (hc : Calls P f args w fun e w' => ∃ v, e = .returned v ∧ R v w') (h : ∀ v w', R v w' → K (a.put oi.dst v) w') : oi.wp P a w K Q := by
  unfold Oper.wp execOp
  simp only [ki, resolve, ea, Act.eval, Deferred.ofValue, invoke, Sem.run_bind, Sem.run_pure, Result.andThen_ok, Array.append_empty, Array.empty_append, ef]
  exact hc.mono fun e w' ⟨v, he, hR⟩ => by subst he; exact h v w' hR

theorem wp_alloc_of {t : TypeId} {K : Act → World → Prop} {o : Obj} (kj : oj.op = .alloc t) (hal : (Instr.alloc t true (.tuple #[])).run P w = .ok (.pointer (some ⟨w.heap.size, 0, none⟩)) (w.alloc o))
    (h : K (a.put oj.dst (.pointer (some ⟨w.heap.size, 0, none⟩))) (w.alloc o)) : oj.wp P a w K Q := by
  unfold Oper.wp execOp
  simp only [kj, Sem.run_bind, hal, Sem.run_pure, Result.andThen_ok]
  exact h

/-- A call that at most draws, and a new variable: either way round. -/
theorem takeE_call_alloc {f : FuncId} {xs : Array Operand} {ts : Array TypeId} {t : TypeId} (args : Array Value) (R : Value → Prop) (o : Obj)
    (hr : Region.ready md ops listed = [i, j]) (hr1 : Region.ready md ops (listed.setIfInBounds i true) = [j]) (hr2 : Region.ready md ops (listed.setIfInBounds j true) = [i])
    (hi : ops[i]? = some oi) (hj : ops[j]? = some oj) (gi : oi.guard = none) (gj : oj.guard = none) (hij : i ≠ j)
    (ki : oi.op = .call { callee := .value (.func f), args := xs, argTypes := ts }) (kj : oj.op = .alloc t)
    (hal : ∀ W : World, (Instr.alloc t true (.tuple #[])).run P W = .ok (.pointer (some ⟨W.heap.size, 0, none⟩)) (W.alloc o))
    (ea : xs.map a.eval = args) (ea' : xs.map (a.put oj.dst (.pointer (some ⟨w.heap.size, 0, none⟩))).eval = args) (ef : ∀ args w, (callFunc f args).run P w = .ok (.enter f args) w)
    (hcom : ∀ u, (a.put oj.dst (.pointer (some ⟨w.heap.size, 0, none⟩))).put oi.dst u = (a.put oi.dst u).put oj.dst (.pointer (some ⟨w.heap.size, 0, none⟩)))
    (hc : Calls P f args w fun e w' => ∃ v, e = .returned v ∧ R v ∧ ∃ q, w' = w.drewN q)
    (hc' : Calls P f args (w.alloc o) fun e w' => ∃ v, e = .returned v ∧ R v ∧ ∃ q, w' = (w.alloc o).drewN q)
    (hS1 : ∀ q, S (w.drewN q)) (hS2 : ∀ q, S ((w.alloc o).drewN q))
    (h : ∀ v q, R v → wpAnyE P md ops Q S k0 fuel ((listed.setIfInBounds i true).setIfInBounds j true) ((a.put oi.dst v).put oj.dst (.pointer (some ⟨w.heap.size, 0, none⟩))) ((w.alloc o).drewN q)) :
    wpAnyE P md ops Q S k0 (fuel + 2) listed a w := by
  refine takeE_two hr hi hj gi gj ?_ ?_
  · refine wp_call_of args (fun v w' => R v ∧ ∃ q, w' = w.drewN q) ki ea ef hc ?_
    rintro v w' ⟨hv, q, rfl⟩
    exact ⟨.inl (hS1 q), takeE_one hr1 hj gj (wp_alloc_of kj (hal _) ⟨.inl (hS2 q), h v q hv⟩)⟩
  · refine wp_alloc_of kj (hal _) ⟨.inl (hS2 0), takeE_one hr2 hi gi (wp_call_of args (fun v w' => R v ∧ ∃ q, w' = (w.alloc o).drewN q) ki ea' ef hc' ?_)⟩
    rintro v w' ⟨hv, q, rfl⟩
    refine ⟨.inl (hS2 q), ?_⟩
    rw [hcom, Array.setIfInBounds_comm _ _ (Ne.symm hij)]
    exact h v q hv
end
end Go.Proofs.YthkeofinamedfaaDoor
