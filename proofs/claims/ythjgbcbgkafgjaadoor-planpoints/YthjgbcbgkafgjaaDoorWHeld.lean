/- Steps of a region that draws its order, one by one. Nothing of the program is named here. -/
import Derived.Test.YthjgbcbgkafgjaaDoorBase
import Derived.OrdersHeld
import Derived.Deep.Quiet
import Derived.BigQuiet
namespace Go.Proofs.YthjgbcbgkafgjaaDoor
open Go.RowKit
set_option linter.unusedVariables false
set_option maxRecDepth 20000
set_option linter.unusedSimpArgs false

/-! ### A region whose last operation may end the condition. -/
section
variable {P : Program} {md : Region.Mode} {ops : Array Oper} {Q : Exit → Act → World → Prop} {S : World → Prop} {k0 : Nat}

/-- Whatever order is picked from here on; and S holds behind every operation but the last, k0. -/
def wpAnyE (P : Program) (md : Region.Mode) (ops : Array Oper) (Q : Exit → Act → World → Prop) (S : World → Prop) (k0 : Nat) : Nat → Array Bool → Act → World → Prop
  | 0, listed, a, w => Region.ready md ops listed = [] ∧ Q .normal a w
  | fuel + 1, listed, a, w =>
    (Region.ready md ops listed = [] → Q .normal a w) ∧
    ∀ i ∈ Region.ready md ops listed, wpOp P ops Q i (fun a' w' => (S w' ∨ i = k0) ∧ wpAnyE P md ops Q S k0 fuel (listed.setIfInBounds i true) a' w') a w

theorem wpAny_of_E : ∀ (fuel : Nat) (listed : Array Bool) (a : Act) (w : World), wpAnyE P md ops Q S k0 fuel listed a w → wpAny P md ops Q fuel listed a w
  | 0, _, _, _, h => h
  | fuel + 1, _, _, _, h => ⟨h.1, fun i hi => wpOp_mono (fun a' w' h' => wpAny_of_E fuel _ a' w' h'.2) (h.2 i hi)⟩

/-- What has come up has come up behind what it waits for. -/
def Legal (md : Region.Mode) (ops : Array Oper) (listed : Array Bool) : Prop :=
  ∀ j oj, ops[j]? = some oj → listed.getD j false = true → ∀ e ∈ oj.after, Region.binds md e = true → listed.getD e.on false = true

def legalB (md : Region.Mode) (ops : Array Oper) (listed : Array Bool) : Bool :=
  (List.range ops.size).all fun j => !listed.getD j false || ((ops[j]?).map (·.after.all fun e => !Region.binds md e || listed.getD e.on false)).getD true

theorem legalB_spec {listed : Array Bool} (h : legalB md ops listed = true) : Legal md ops listed := fun j oj hj hl e he hb => by
  simp only [legalB, List.all_eq_true, List.mem_range] at h
  have h1 := h j (Array.getElem?_eq_some_iff.1 hj).1
  simp only [hj, hl, Option.map_some, Option.getD_some, Bool.not_true, Bool.false_or, Array.all_eq_true_iff_forall_mem, Bool.or_eq_true, Bool.not_eq_true'] at h1
  rcases h1 e he with h2 | h2
  · rw [h2] at hb; cases hb
  · exact h2

theorem Legal.step {listed : Array Bool} {j : Nat} (h : Legal md ops listed) (hj : j ∈ Region.ready md ops listed) : Legal md ops (listed.setIfInBounds j true) := fun k ok hk hl e he hb => by
  by_cases hjk : j = k
  · subst hjk
    obtain ⟨_, o, ho, hall⟩ := mem_ready.1 hj
    rw [ho] at hk
    cases hk
    exact getD_set_true (hall e he hb)
  · rw [getD_set_ne false hjk] at hl
    exact getD_set_true (h k ok hk hl e he hb)

/-- k waits for i, or for what waits for i .. -/
def leadsB (md : Region.Mode) (ops : Array Oper) : Nat → Nat → Nat → Bool
  | 0, _, _ => false
  | f + 1, k, i => ((ops[k]?).map (·.after.any fun e => Region.binds md e && (e.on == i || leadsB md ops f e.on i))).getD false

theorem leads_listed {listed : Array Bool} (hL : Legal md ops listed) (i : Nat) : ∀ (f k : Nat), leadsB md ops f k i = true → listed.getD k false = true → listed.getD i false = true
  | 0, k, h, _ => by cases h
  | f + 1, k, h, hk => by
    unfold leadsB at h
    cases ho : ops[k]? with
    | none => rw [ho] at h; cases h
    | some o =>
      rw [ho] at h
      simp only [Option.map_some, Option.getD_some] at h
      obtain ⟨e, he, hb⟩ := Array.any_eq_true'.1 h
      simp only [Bool.and_eq_true, Bool.or_eq_true, beq_iff_eq] at hb
      have h1 := hL k o ho hk e he hb.1
      rcases hb.2 with h2 | h2
      · rw [h2] at h1; exact h1
      · exact leads_listed hL i f e.on h2 h1

theorem leads_ready {listed : Array Bool} (hL : Legal md ops listed) {i f : Nat} (h : leadsB md ops f k0 i = true) (hr : k0 ∈ Region.ready md ops listed) : listed.getD i false = true := by
  have h1 := leads_listed (hL.step hr) i f k0 h (by
    have h0 := (mem_ready.1 hr).1
    have hlt : k0 < listed.size := by
      rcases Nat.lt_or_ge k0 listed.size with h' | h'
      · exact h'
      · simp [Array.getElem?_eq_none h'] at h0
    simp [hlt])
  by_cases hik : k0 = i
  · subst hik
    exfalso
    cases f with
    | zero => cases h
    | succ f =>
      -- it waits for itself: what it waits for has come up, but it has not
      have hh : ∀ (f k : Nat), leadsB md ops f k k0 = true → (∀ o, ops[k]? = some o → ∀ e ∈ o.after, Region.binds md e = true → listed.getD e.on false = true) → listed.getD k0 false = true := by
        intro f
        induction f with
        | zero => intro k h _; cases h
        | succ f ih =>
          intro k h hk
          unfold leadsB at h
          cases ho : ops[k]? with
          | none => rw [ho] at h; cases h
          | some o =>
            rw [ho] at h
            simp only [Option.map_some, Option.getD_some] at h
            obtain ⟨e, he, hb⟩ := Array.any_eq_true'.1 h
            simp only [Bool.and_eq_true, Bool.or_eq_true, beq_iff_eq] at hb
            have h1 := hk o ho e he hb.1
            rcases hb.2 with h2 | h2
            · rw [h2] at h1; exact h1
            · exact ih e.on h2 (fun o' ho' e' he' hb' => hL e.on o' ho' h1 e' he' hb')
      obtain ⟨h0, o, ho, hall⟩ := mem_ready.1 hr
      have h2 := hh (f + 1) k0 h (fun o' ho' => by rw [ho] at ho'; cases ho'; exact hall)
      rcases Nat.lt_or_ge k0 listed.size with h' | h'
      · simp [h'] at h0 h2; rw [h0] at h2; cases h2
      · simp [Array.getElem?_eq_none h'] at h2
  · rw [getD_set_ne false hik] at h1
    exact h1

theorem wpAnyE_first {i : Nat} {oi : Oper} {v : Value} {f : Nat} (hi : ops[i]? = some oi) (hsel : ∀ (j : Nat) (o : Oper) cs b, ops[j]? = some o → o.op ≠ .select cs b) (hlead : leadsB md ops f k0 i = true)
    (hQ : ∀ c a w, Q (.panic c) (a.put oi.dst v) w → Q (.panic c) a w) :
    ∀ (fuel : Nat) (listed : Array Bool) (a : Act) (w : World), Legal md ops listed →
      (∀ j oj, ops[j]? = some oj → j ≠ i → listed.getD j true = false → (∀ e ∈ oj.after, Region.binds md e = true → e.on ≠ i) → oi.apart ops oj = true) →
      i ∈ Region.ready md ops listed → YieldsIf P ops S oi v a → S w →
      wpAnyE P md ops Q S k0 fuel (listed.setIfInBounds i true) (a.put oi.dst v) w → wpAnyE P md ops Q S k0 (fuel + 1) listed a w := by
  intro fuel
  induction fuel with
  | zero =>
    intro listed a w _ _ hr hy hS H
    refine ⟨fun h => (by rw [h] at hr; cases hr), fun j hj => ?_⟩
    by_cases hji : j = i
    · subst hji; exact hy.wpOp hi hS ⟨.inl hS, H⟩
    · have := ready_mono hj hji
      rw [H.1] at this
      cases this
  | succ fuel ih =>
    intro listed a w hleg hfree hr hy hS H
    refine ⟨fun h => (by rw [h] at hr; cases hr), fun j hj => ?_⟩
    by_cases hji : j = i
    · subst hji; exact hy.wpOp hi hS ⟨.inl hS, H⟩
    · have h1 := H.2 j (ready_mono hj hji)
      have hjk : j ≠ k0 := fun e => by
        subst e
        have h2 := leads_ready hleg hlead hj
        have h0 := (mem_ready.1 hr).1
        rcases Nat.lt_or_ge i listed.size with h' | h'
        · simp [h'] at h0 h2; rw [h0] at h2; cases h2
        · simp [Array.getElem?_eq_none h'] at h2
      obtain ⟨hjun, oj, hoj, hall⟩ := mem_ready.1 hj
      have hnot : ∀ e ∈ oj.after, Region.binds md e = true → e.on ≠ i := fun e he hb heq => by
        have h1 := hall e he hb
        have h0 := (mem_ready.1 hr).1
        rw [heq] at h1
        rcases Nat.lt_or_ge i listed.size with h' | h'
        · simp [h'] at h0 h1; rw [h0] at h1; cases h1
        · simp [Array.getElem?_eq_none h'] at h1
      have h2 := wpOp_putIf hoj (hfree j oj hoj hji hjun hnot) (fun cs b => hsel i oi cs b hi) (fun cs b => hsel j oj cs b hoj) hQ hy h1
      have hfree' : ∀ k ok, ops[k]? = some ok → k ≠ i → (listed.setIfInBounds j true).getD k true = false →
          (∀ e ∈ ok.after, Region.binds md e = true → e.on ≠ i) → oi.apart ops ok = true := fun k ok hk hki hun hno => by
        refine hfree k ok hk hki ?_ hno
        by_cases hjk : j = k
        · subst hjk; exact hjun
        · rw [getD_set_ne true hjk] at hun; exact hun
      refine wpOp_mono (fun a' w' h3 => ?_) h2
      have hS3 : S w' := h3.2.1.resolve_right hjk
      refine ⟨.inl hS3, ih (listed.setIfInBounds j true) a' w' (hleg.step hj) hfree' (ready_mono hr (Ne.symm hji)) h3.1 hS3 ?_⟩
      rw [Array.setIfInBounds_comm _ _ hji]
      exact h3.2.2

theorem wpAnyE_take {i : Nat} {oi : Oper} {v : Value} {fuel : Nat} {listed : Array Bool} {a : Act} {w : World} (hi : ops[i]? = some oi)
    (hs : Region.noSelect ops = true) (hf : Region.free md ops listed i = true) (hr : (Region.ready md ops listed).contains i = true) (hl : legalB md ops listed = true) (hlead : leadsB md ops 40 k0 i = true)
    (hQ : ∀ c a w, Q (.panic c) (a.put oi.dst v) w → Q (.panic c) a w) (hy : YieldsIf P ops S oi v a) (hS : S w)
    (h : wpAnyE P md ops Q S k0 fuel (listed.setIfInBounds i true) (a.put oi.dst v) w) : wpAnyE P md ops Q S k0 (fuel + 1) listed a w :=
  wpAnyE_first hi (Region.noSelect_spec hs) hlead hQ fuel listed a w (legalB_spec hl) (Region.free_spec hi hf) (by simpa using hr) hy hS h

theorem tkE {i : Nat} {oi : Oper} {v : Value} {a2 : Act} {fuel : Nat} {listed : Array Bool} {a : Act} {w : World} (hi : ops[i]? = some oi) (hS : S w) (h : wpAnyE P md ops Q S k0 fuel (listed.setIfInBounds i true) a2 w)
    (hs : Region.noSelect ops = true := by kernel_rfl) (hf : Region.free md ops listed i = true := by kernel_rfl) (hr : (Region.ready md ops listed).contains i = true := by kernel_rfl) (hl : legalB md ops listed = true := by kernel_rfl) (hlead : leadsB md ops 40 k0 i = true := by kernel_rfl)
    (hQ : ∀ c a w, Q (.panic c) (a.put oi.dst v) w → Q (.panic c) a w := by exact fun _ _ _ h => h)
    (hy : YieldsIf P ops S oi v a := by exact Or.inl ⟨by rfl, by (intro w hSw; (try dsimp only at hSw); (try obtain ⟨hSw1, hSw2, hSw3⟩ := hSw); go_simp <;> with_reducible rfl)⟩)
    (hp : a.put oi.dst v = a2 := by (simp only [Act.put, List.getElem_toArray, List.getElem_cons_zero, List.getElem_cons_succ, List.setIfInBounds_toArray, List.set_cons_zero, List.set_cons_succ]; rfl)) : wpAnyE P md ops Q S k0 (fuel + 1) listed a w := by
  subst hp
  exact wpAnyE_take hi hs hf hr hl hlead hQ hy hS h

theorem wpAnyE_all {rs : List Nat} {fuel : Nat} {listed : Array Bool} {a : Act} {w : World} (hr : Region.ready md ops listed = rs) (hne : rs ≠ [])
    (h : ∀ i ∈ rs, wpOp P ops Q i (fun a' w' => (S w' ∨ i = k0) ∧ wpAnyE P md ops Q S k0 fuel (listed.setIfInBounds i true) a' w') a w) : wpAnyE P md ops Q S k0 (fuel + 1) listed a w :=
  ⟨fun h0 => absurd (hr ▸ h0) hne, hr ▸ h⟩

theorem wpAnyE_done {listed : Array Bool} {a : Act} {w : World} (hr : Region.ready md ops listed = []) (h : Q .normal a w) :
    ∀ fuel, wpAnyE P md ops Q S k0 fuel listed a w
  | 0 => ⟨hr, h⟩
  | _ + 1 => ⟨fun _ => h, by rw [hr]; simp⟩

end

section
variable {P : Program} {md : Region.Mode} {ops : Array Oper} {Q : Exit → Act → World → Prop} {S : World → Prop} {fuel : Nat} {listed : Array Bool} {a : Act} {w : World} {i k0 : Nat} {oi : Oper}

theorem takeE_one (hr : Region.ready md ops listed = [i]) (hi : ops[i]? = some oi) (gi : oi.guard = none)
    (h : oi.wp P a w (fun a' w' => (S w' ∨ i = k0) ∧ wpAnyE P md ops Q S k0 fuel (listed.setIfInBounds i true) a' w') Q) : wpAnyE P md ops Q S k0 (fuel + 1) listed a w := by
  refine wpAnyE_all hr (by simp) fun k hk => ?_
  simp only [List.mem_cons, List.not_mem_nil, or_false] at hk
  subst hk
  unfold wpOp
  simp only [hi, show Region.wanted oi (yielded ops a.tmps) = true by simp [Region.wanted, gi], if_true]
  exact .inl h

theorem takeE_value {v : Value} {w' : World} (hr : Region.ready md ops listed = [i]) (hi : ops[i]? = some oi) (gi : oi.guard = none) (hrun : (execOp a.eval oi).run P w = .ok (.value v) w') (hS : S w')
    (h : wpAnyE P md ops Q S k0 fuel (listed.setIfInBounds i true) (a.put oi.dst v) w') : wpAnyE P md ops Q S k0 (fuel + 1) listed a w :=
  takeE_one hr hi gi (by
    unfold Oper.wp
    rw [hrun]
    exact ⟨.inl hS, h⟩)
/-- Nothing but the common way out. -/
def Only (Q : Exit → Act → World → Prop) : Exit → Act → World → Prop
  | .normal, a, w => Q .normal a w
  | _, _, _ => False

theorem last_region {id : Nat} (S : World → Prop) (k0 : Nat) (hm : P.follows .mixedOrders = true) (h : wpAnyE P .any ops (Only Q) S k0 ops.size (Array.replicate ops.size false) a w.drew) : (Code.region id ops true).wp P Q a w :=
  wp_mono (wp_region_any hm (wpAny_of_E _ _ _ _ h)) (fun e a w h => by cases e <;> first | exact h | exact h.elim)

theorem takeE_skip (hr : Region.ready md ops listed = [i]) (hi : ops[i]? = some oi) (hw : Region.wanted oi (yielded ops a.tmps) = false) (hS : S w)
    (h : wpAnyE P md ops Q S k0 fuel (listed.setIfInBounds i true) (a.put oi.dst undef) w) : wpAnyE P md ops Q S k0 (fuel + 1) listed a w := by
  refine wpAnyE_all hr (by simp) fun k hk => ?_
  simp only [List.mem_cons, List.not_mem_nil, or_false] at hk
  subst hk
  unfold wpOp
  simp only [hi, hw, Bool.false_eq_true, if_false]
  exact ⟨.inl hS, h⟩

theorem takeE_callw {f : FuncId} {xs : Array Operand} {ts : Array TypeId} (args : Array Value) (R : Value → World → Prop) (hr : Region.ready md ops listed = [i]) (hi : ops[i]? = some oi) (hw : Region.wanted oi (yielded ops a.tmps) = true)
    (ki : oi.op = .call { callee := .value (.func f), args := xs, argTypes := ts }) (ea : xs.map a.eval = args) (ef : ∀ args w, (callFunc f args).run P w = .ok (.enter f args) w)
    (hc : Calls P f args w fun e w' => ∃ v, e = .returned v ∧ R v w')
    (h : ∀ v w', R v w' → S w' ∧ wpAnyE P md ops Q S k0 fuel (listed.setIfInBounds i true) (a.put oi.dst v) w') : wpAnyE P md ops Q S k0 (fuel + 1) listed a w := by
  refine wpAnyE_all hr (by simp) fun k hk => ?_
  simp only [List.mem_cons, List.not_mem_nil, or_false] at hk
  subst hk
  unfold wpOp
  simp only [hi, hw, if_true]
  refine .inl ?_
  unfold Oper.wp execOp
  simp only [ki, resolve, ea, Act.eval, Deferred.ofValue, invoke, Sem.run_bind, Sem.run_pure, Result.andThen_ok, Array.append_empty, Array.empty_append, ef]
  exact hc.mono fun e w' ⟨v, he, hR⟩ => by subst he; exact ⟨.inl (h v w' hR).1, (h v w' hR).2⟩

theorem takeE_callv {f : FuncId} {x : Operand} {lb : Array Value} {xs : Array Operand} {ts : Array TypeId} (args : Array Value) (R : Value → World → Prop) (hr : Region.ready md ops listed = [i]) (hi : ops[i]? = some oi) (hw : Region.wanted oi (yielded ops a.tmps) = true)
    (ki : oi.op = .call { callee := .value x, args := xs, argTypes := ts }) (ex : a.eval x = .func (.func f) #[] lb) (ea : xs.map a.eval = args) (ef : ∀ args w, (callFunc f args).run P w = .ok (.enter f args) w)
    (hc : Calls P f (args ++ lb) w fun e w' => ∃ v, e = .returned v ∧ R v w')
    (h : ∀ v w', R v w' → S w' ∧ wpAnyE P md ops Q S k0 fuel (listed.setIfInBounds i true) (a.put oi.dst v) w') : wpAnyE P md ops Q S k0 (fuel + 1) listed a w := by
  refine wpAnyE_all hr (by simp) fun k hk => ?_
  simp only [List.mem_cons, List.not_mem_nil, or_false] at hk
  subst hk
  unfold wpOp
  simp only [hi, hw, if_true]
  refine .inl ?_
  unfold Oper.wp execOp
  simp only [ki, resolve, ea, ex, Deferred.ofValue, invoke, Sem.run_bind, Sem.run_pure, Result.andThen_ok, Array.append_empty, Array.empty_append, ef]
  exact hc.mono fun e w' ⟨v, he, hR⟩ => by subst he; exact ⟨.inl (h v w' hR).1, (h v w' hR).2⟩
end
end Go.Proofs.YthjgbcbgkafgjaaDoor
