/- Regions that draw, in rounds; (tools/btheld.py: out of stage 4).  -/
import Derived.Test.YtjfipejfejmlaaaBtBack
import Derived.Test.YtjfipejfejmlaaaBtCtx
import Derived.OrdersHeld
import Derived.Deep.Quiet
import Derived.BigQuiet
import Derived.Deep.AppendLies
import Derived.Great.BuildSlice
namespace Go.Proofs.Ytjfipejfejmlaaa
open Go.RowKit
set_option linter.unusedVariables false

theorem rowsIn_wide {n : Nat} {P : Program} {row : String} {args : Array Value} {w : World} {R : Value → World → Prop} (h : Rows P row args w R) : RowsIn Fence.wide n P row args w R :=
  fun c cs _ => let ⟨v, w', r, s⟩ := h c cs; ⟨v, w', r, stepsIn_wide.2 s⟩

theorem oper_in_round {l n : Nat} {P : Program} {o : Oper} {a : Act} {w : World} {K : Act → World → Prop} {Q : Exit → Act → World → Prop} (hd : ∀ c, o.op ≠ .defer c) (h : o.wp P a w K Q) : o.wpIn (Fence.wide.inRound l) n P a w K Q := by
  unfold Oper.wp at h
  unfold Oper.wpIn
  refine ⟨fun _ _ => trivial, ?_⟩
  rw [Fence.inRound_round, Oper.semAt_some l _ _ hd]
  generalize (execOp a.eval o).run P w = r at *
  cases r with
  | ok x w' =>
    cases x <;> simp only [Oper.upon, Oper.uponIn] at h ⊢
    case value v => exact h
    case skip => exact h
    case defer d => exact h
    case enter f args => exact ⟨fun h => (by cases h), callsIn_wide.2 h⟩
    case row row args => exact ⟨fun h => (by cases h), rowsIn_wide h⟩
  | halt x w' =>
    cases x <;> simp only [Oper.upon, Oper.uponIn] at h ⊢
    case panic v => exact h

/-- No statement that defers. -/
def plainOps (ops : Array Oper) : Bool := ops.all fun o => match o.op with | .defer _ => false | _ => true

theorem plainOps_spec {ops : Array Oper} (h : plainOps ops = true) {i : Nat} {o : Oper} (ho : ops[i]? = some o) : ∀ c, o.op ≠ .defer c := by
  intro c e
  have := Array.all_eq_true_iff_forall_mem.1 h o (Array.mem_of_getElem? ho)
  rw [e] at this
  cases this

theorem wpAnyIn_of_any {l n : Nat} {P : Program} {md : Region.Mode} {ops : Array Oper} {Q : Exit → Act → World → Prop} (hd : plainOps ops = true) (hQ : ¬ LetsOut Q) :
    ∀ (fuel : Nat) (listed : Array Bool) (a : Act) (w : World), wpAny P md ops Q fuel listed a w → wpAnyIn (Fence.wide.inRound l) n P md ops Q fuel listed a w
  | 0, _, _, _, h => h
  | fuel + 1, listed, a, w, h => ⟨h.1, fun i hi => by
    have := h.2 i hi
    unfold wpOp at this
    unfold wpOpIn
    cases ho : ops[i]? with
    | none => simp only [ho] at this ⊢; exact wpAnyIn_of_any hd hQ fuel _ _ _ this
    | some o =>
      simp only [ho] at this ⊢
      split
      · rename_i hw
        simp only [hw, if_true] at this
        rcases this with this | ⟨_, hlo⟩
        · exact Oper.wpIn_mono (fun a w h => wpAnyIn_of_any hd hQ fuel _ a w h) (oper_in_round (plainOps_spec hd ho) this)
        · exact absurd hlo hQ
      · rename_i hw
        simp only [hw] at this
        exact ⟨fun _ _ => trivial, wpAnyIn_of_any hd hQ fuel _ _ _ this⟩⟩

theorem region_in_round {l n id : Nat} {P : Program} {ops : Array Oper} {Q : Exit → Act → World → Prop} {a : Act} {w : World} (hm : P.follows .mixedOrders = true) (hd : plainOps ops = true) (hQ : ¬ LetsOut Q)
    (h : wpAny P .any ops Q ops.size (Array.replicate ops.size false) a w.drew) : (Code.region id ops true).wpIn (Fence.wide.inRound l) n P Q a w :=
  wpIn_region_any hm (wpAnyIn_of_any hd hQ _ _ _ _ h)

/-- A region that only reads. -/
theorem quiet_in_round {l n id : Nat} {P : Program} {ls : List Oper} {Q : Exit → Act → World → Prop} {a : Act} {w : World} (hm : P.follows .mixedOrders = true) (hB : Region.lexB .any ls.toArray = true) (hd : plainOps ls.toArray = true) (hQ : ¬ LetsOut Q)
    (h : wpQuiet P ls.toArray (fun w' => ∃ n, w' = w.drewN n) (fun a' => ∀ w', (∃ n, w' = w.drewN n) → Q .normal a' w') ls a) : (Code.region id ls.toArray true).wpIn (Fence.wide.inRound l) n P Q a w := by
  simp only [Region.lexB, Bool.and_eq_true] at hB
  refine region_in_round hm hd hQ (wpAny_of_quiet (C := fun w' => ∃ n, w' = w.drewN n) (Q := fun a' => ∀ w', (∃ n, w' = w.drewN n) → Q .normal a' w') (fun _ w' hw' h => h w' hw') _ _ _ _ ⟨1, rfl⟩ ?_)
  have := wpAnyQ_lex (P := P) (C := fun w' => ∃ n, w' = w.drewN n) (Q := fun a' => ∀ w', (∃ n, w' = w.drewN n) → Q .normal a' w') (md := .any) hB.1 ls 0 (Array.replicate ls.toArray.size false) a (by simp) (by simpa using hB.2) h
  simpa using this

/-- A region over a condition that every world on the way meets. -/
theorem held_in_round {l n id : Nat} {P : Program} {ops : Array Oper} {Q : Exit → Act → World → Prop} {a : Act} {w : World} (S : World → Prop) (hm : P.follows .mixedOrders = true) (hd : plainOps ops = true) (hQ : ¬ LetsOut Q)
    (h : wpAnyH P .any ops Q S ops.size (Array.replicate ops.size false) a w.drew) : (Code.region id ops true).wpIn (Fence.wide.inRound l) n P Q a w :=
  region_in_round hm hd hQ (wpAny_of_held _ _ _ _ h)
theorem run_load_ptr {P : Program} (w : World) (ty e : TypeId) (hu : P.underlying ty = some (.pointer e)) (ad : Addr) (v : Value) (hc : w.cell? ad = some v) : (loadVar ty ad).run P w = .ok v w := by
  simp [loadVar, isAgg, Sem.run_bind, run_underlying hu, hc]

theorem run_store_ptr {P : Program} (w : World) (ty : TypeId) (hi : (P.info? ty).map (·.size) = some 1) (ad : Addr) (p : Option Addr) (u : Value) (hc : w.cell? ad = some u) (hf : w.frozen? ad = false) : (storeVar ty ad (.pointer p)).run P w = .ok () (w.setCell ad (.pointer p)) := by
  cases hq : P.info? ty with
  | none => simp [hq] at hi
  | some i =>
    have hs : i.size = 1 := by simpa [hq] using hi
    have h1 : (store ad (.pointer p)).run P w = .ok () (w.setCell ad (.pointer p)) := by
      rw [run_store P w ad (.pointer p) .plain rfl, hc]
      simp [hf]
    simp [storeVar, sizeOf, typeInfo, hq, Value.cells, hs, storeCells, Addr.add, h1]

/-- Two loads that may come either way round. -/
theorem take_loads {P : Program} {md : Region.Mode} {ops : Array Oper} {Q : Exit → Act → World → Prop} {fuel : Nat} {listed : Array Bool} {a : Act} {w : World} {i j : Nat} {oi oj : Oper} {ty : TypeId} {xi xj : Operand} {pi pj : Addr} {vi vj : Value} (e : TypeId) (hu : P.underlying ty = some (.pointer e))
    (hr : Region.ready md ops listed = [i, j]) (hi : ops[i]? = some oi) (hj : ops[j]? = some oj) (gi : oi.guard = none) (gj : oj.guard = none) (ki : oi.op = .load ty xi) (kj : oj.op = .load ty xj) (ei : a.eval xi = .pointer (some pi)) (ej : a.eval xj = .pointer (some pj)) (ci : w.cell? pi = some vi) (cj : w.cell? pj = some vj)
    (h1 : wpAny P md ops Q fuel (listed.setIfInBounds i true) (a.put oi.dst vi) w) (h2 : wpAny P md ops Q fuel (listed.setIfInBounds j true) (a.put oj.dst vj) w) : wpAny P md ops Q (fuel + 1) listed a w := by
  refine wpAny_all hr (by simp) fun k hk => ?_
  simp only [List.mem_cons, List.not_mem_nil, or_false] at hk
  rcases hk with rfl | rfl
  · unfold wpOp
    simp only [hi, show Region.wanted oi (yielded ops a.tmps) = true by simp [Region.wanted, gi], if_true]
    refine .inl ?_
    unfold Oper.wp execOp
    simp only [ki, ei, Instr.loadAt, Instr.sureAddr, Sem.run_bind, Sem.run_pure, Result.andThen_ok, run_load_ptr w ty e hu pi vi ci]
    exact h1
  · unfold wpOp
    simp only [hj, show Region.wanted oj (yielded ops a.tmps) = true by simp [Region.wanted, gj], if_true]
    refine .inl ?_
    unfold Oper.wp execOp
    simp only [kj, ej, Instr.loadAt, Instr.sureAddr, Sem.run_bind, Sem.run_pure, Result.andThen_ok, run_load_ptr w ty e hu pj vj cj]
    exact h2

theorem take_load {P : Program} {md : Region.Mode} {ops : Array Oper} {Q : Exit → Act → World → Prop} {fuel : Nat} {listed : Array Bool} {a : Act} {w : World} {i : Nat} {oi : Oper} {ty : TypeId} {xi : Operand} {pi : Addr} {vi : Value} (e : TypeId) (hu : P.underlying ty = some (.pointer e))
    (hr : Region.ready md ops listed = [i]) (hi : ops[i]? = some oi) (gi : oi.guard = none) (ki : oi.op = .load ty xi) (ei : a.eval xi = .pointer (some pi)) (ci : w.cell? pi = some vi)
    (h1 : wpAny P md ops Q fuel (listed.setIfInBounds i true) (a.put oi.dst vi) w) : wpAny P md ops Q (fuel + 1) listed a w := by
  refine wpAny_all hr (by simp) fun k hk => ?_
  simp only [List.mem_cons, List.not_mem_nil, or_false] at hk
  subst hk
  unfold wpOp
  simp only [hi, show Region.wanted oi (yielded ops a.tmps) = true by simp [Region.wanted, gi], if_true]
  refine .inl ?_
  unfold Oper.wp execOp
  simp only [ki, ei, Instr.loadAt, Instr.sureAddr, Sem.run_bind, Sem.run_pure, Result.andThen_ok, run_load_ptr w ty e hu pi vi ci]
  exact h1

theorem take_store {P : Program} {md : Region.Mode} {ops : Array Oper} {Q : Exit → Act → World → Prop} {fuel : Nat} {listed : Array Bool} {a : Act} {w : World} {i : Nat} {oi : Oper} {ty : TypeId} {x y : Operand} {pi : Addr} {u : Value} {p : Option Addr} (hs : (P.info? ty).map (·.size) = some 1)
    (hr : Region.ready md ops listed = [i]) (hi : ops[i]? = some oi) (gi : oi.guard = none) (di : oi.dst = none) (ki : oi.op = .store ty x y) (ei : a.eval x = .pointer (some pi)) (ey : a.eval y = .pointer p) (ci : w.cell? pi = some u) (cf : w.frozen? pi = false)
    (h1 : wpAny P md ops Q fuel (listed.setIfInBounds i true) a (w.setCell pi (.pointer p))) : wpAny P md ops Q (fuel + 1) listed a w := by
  refine wpAny_all hr (by simp) fun k hk => ?_
  simp only [List.mem_cons, List.not_mem_nil, or_false] at hk
  subst hk
  unfold wpOp
  simp only [hi, show Region.wanted oi (yielded ops a.tmps) = true by simp [Region.wanted, gi], if_true]
  refine .inl ?_
  unfold Oper.wp execOp
  simp only [ki, ei, ey, Instr.storeAt, Instr.sureAddr, Sem.run_bind, Sem.run_pure, Result.andThen_ok, run_store_ptr w ty hs pi p u ci cf, Oper.upon, di]
  exact h1
end Go.Proofs.Ytjfipejfejmlaaa

/- Steps of a region that draws its order, one way open, over a condition that every world on the way meets. Nothing of the program is named here. -/

namespace Go.Proofs.Ytjfipejfejmlaaa
open Go.RowKit
set_option linter.unusedVariables false
set_option maxRecDepth 20000

/-! ### A region whose last operation may end the condition. -/
section
variable {P : Program} {md : Region.Mode} {ops : Array Oper} {Q : Exit → Act → World → Prop} {S : World → Prop} {k0 : Nat}

/-- Whatever order is picked from here on; and S holds behind every operation but the last, k0. -/
def wpAnyE (P : Program) (md : Region.Mode) (ops : Array Oper) (Q : Exit → Act → World → Prop) (S : World → Prop) (k0 : Nat) : Nat → Array Bool → Act → World → Prop
  | 0, listed, a, w => Region.ready md ops listed = [] ∧ Q .normal a w
  | fuel + 1, listed, a, w =>
    (Region.ready md ops listed = [] → Q .normal a w) ∧
    ∀ i ∈ Region.ready md ops listed, wpOp P ops Q i (fun a' w' => (S w' ∨ i = k0) ∧ wpAnyE P md ops Q S k0 fuel (listed.setIfInBounds i true) a' w') a w

theorem wpAny_of_E : ∀ (fuel : Nat) (listed : Array Bool) (a : Act) (w : World), wpAnyE P md ops Q S k0 fuel listed a w → wpAny P md ops Q fuel listed a w
  | 0, _, _, _, h => h
  | fuel + 1, _, _, _, h => ⟨h.1, fun i hi => wpOp_mono (fun a' w' h' => wpAny_of_E fuel _ a' w' h'.2) (h.2 i hi)⟩

/-- What has come up has come up behind what it waits for. -/
def Legal (md : Region.Mode) (ops : Array Oper) (listed : Array Bool) : Prop :=
  ∀ j oj, ops[j]? = some oj → listed.getD j false = true → ∀ e ∈ oj.after, Region.binds md e = true → listed.getD e.on false = true

def legalB (md : Region.Mode) (ops : Array Oper) (listed : Array Bool) : Bool :=
  (List.range ops.size).all fun j => !listed.getD j false || ((ops[j]?).map (·.after.all fun e => !Region.binds md e || listed.getD e.on false)).getD true

theorem legalB_spec {listed : Array Bool} (h : legalB md ops listed = true) : Legal md ops listed := fun j oj hj hl e he hb => by
  simp only [legalB, List.all_eq_true, List.mem_range] at h
  have h1 := h j (Array.getElem?_eq_some_iff.1 hj).1
  simp only [hj, hl, Option.map_some, Option.getD_some, Bool.not_true, Bool.false_or, Array.all_eq_true_iff_forall_mem, Bool.or_eq_true, Bool.not_eq_true'] at h1
  rcases h1 e he with h2 | h2
  · rw [h2] at hb; cases hb
  · exact h2

theorem Legal.step {listed : Array Bool} {j : Nat} (h : Legal md ops listed) (hj : j ∈ Region.ready md ops listed) : Legal md ops (listed.setIfInBounds j true) := fun k ok hk hl e he hb => by
  by_cases hjk : j = k
  · subst hjk
    obtain ⟨_, o, ho, hall⟩ := mem_ready.1 hj
    rw [ho] at hk
    cases hk
    exact getD_set_true (hall e he hb)
  · rw [getD_set_ne false hjk] at hl
    exact getD_set_true (h k ok hk hl e he hb)

/-- k waits for i, or for what waits for i .. -/
def leadsB (md : Region.Mode) (ops : Array Oper) : Nat → Nat → Nat → Bool
  | 0, _, _ => false
  | f + 1, k, i => ((ops[k]?).map (·.after.any fun e => Region.binds md e && (e.on == i || leadsB md ops f e.on i))).getD false

theorem leads_listed {listed : Array Bool} (hL : Legal md ops listed) (i : Nat) : ∀ (f k : Nat), leadsB md ops f k i = true → listed.getD k false = true → listed.getD i false = true
  | 0, k, h, _ => by cases h
  | f + 1, k, h, hk => by
    unfold leadsB at h
    cases ho : ops[k]? with
    | none => rw [ho] at h; cases h
    | some o =>
      rw [ho] at h
      simp only [Option.map_some, Option.getD_some] at h
      obtain ⟨e, he, hb⟩ := Array.any_eq_true'.1 h
      simp only [Bool.and_eq_true, Bool.or_eq_true, beq_iff_eq] at hb
      have h1 := hL k o ho hk e he hb.1
      rcases hb.2 with h2 | h2
      · rw [h2] at h1; exact h1
      · exact leads_listed hL i f e.on h2 h1

theorem leads_ready {listed : Array Bool} (hL : Legal md ops listed) {i f : Nat} (h : leadsB md ops f k0 i = true) (hr : k0 ∈ Region.ready md ops listed) : listed.getD i false = true := by
  have h1 := leads_listed (hL.step hr) i f k0 h (by
    have h0 := (mem_ready.1 hr).1
    have hlt : k0 < listed.size := by
      rcases Nat.lt_or_ge k0 listed.size with h' | h'
      · exact h'
      · simp [Array.getElem?_eq_none h'] at h0
    simp [hlt])
  by_cases hik : k0 = i
  · subst hik
    exfalso
    cases f with
    | zero => cases h
    | succ f =>
      -- it waits for itself: what it waits for has come up, but it has not
      have hh : ∀ (f k : Nat), leadsB md ops f k k0 = true → (∀ o, ops[k]? = some o → ∀ e ∈ o.after, Region.binds md e = true → listed.getD e.on false = true) → listed.getD k0 false = true := by
        intro f
        induction f with
        | zero => intro k h _; cases h
        | succ f ih =>
          intro k h hk
          unfold leadsB at h
          cases ho : ops[k]? with
          | none => rw [ho] at h; cases h
          | some o =>
            rw [ho] at h
            simp only [Option.map_some, Option.getD_some] at h
            obtain ⟨e, he, hb⟩ := Array.any_eq_true'.1 h
            simp only [Bool.and_eq_true, Bool.or_eq_true, beq_iff_eq] at hb
            have h1 := hk o ho e he hb.1
            rcases hb.2 with h2 | h2
            · rw [h2] at h1; exact h1
            · exact ih e.on h2 (fun o' ho' e' he' hb' => hL e.on o' ho' h1 e' he' hb')
      obtain ⟨h0, o, ho, hall⟩ := mem_ready.1 hr
      have h2 := hh (f + 1) k0 h (fun o' ho' => by rw [ho] at ho'; cases ho'; exact hall)
      rcases Nat.lt_or_ge k0 listed.size with h' | h'
      · simp [h'] at h0 h2; rw [h0] at h2; cases h2
      · simp [Array.getElem?_eq_none h'] at h2
  · rw [getD_set_ne false hik] at h1
    exact h1

theorem wpAnyE_first {i : Nat} {oi : Oper} {v : Value} {f : Nat} (hi : ops[i]? = some oi) (hsel : ∀ (j : Nat) (o : Oper) cs b, ops[j]? = some o → o.op ≠ .select cs b) (hlead : leadsB md ops f k0 i = true)
    (hQ : ∀ c a w, Q (.panic c) (a.put oi.dst v) w → Q (.panic c) a w) :
    ∀ (fuel : Nat) (listed : Array Bool) (a : Act) (w : World), Legal md ops listed →
      (∀ j oj, ops[j]? = some oj → j ≠ i → listed.getD j true = false → (∀ e ∈ oj.after, Region.binds md e = true → e.on ≠ i) → oi.apart ops oj = true) →
      i ∈ Region.ready md ops listed → YieldsIf P ops S oi v a → S w →
      wpAnyE P md ops Q S k0 fuel (listed.setIfInBounds i true) (a.put oi.dst v) w → wpAnyE P md ops Q S k0 (fuel + 1) listed a w := by
  intro fuel
  induction fuel with
  | zero =>
    intro listed a w _ _ hr hy hS H
    refine ⟨fun h => (by rw [h] at hr; cases hr), fun j hj => ?_⟩
    by_cases hji : j = i
    · subst hji; exact hy.wpOp hi hS ⟨.inl hS, H⟩
    · have := ready_mono hj hji
      rw [H.1] at this
      cases this
  | succ fuel ih =>
    intro listed a w hleg hfree hr hy hS H
    refine ⟨fun h => (by rw [h] at hr; cases hr), fun j hj => ?_⟩
    by_cases hji : j = i
    · subst hji; exact hy.wpOp hi hS ⟨.inl hS, H⟩
    · have h1 := H.2 j (ready_mono hj hji)
      have hjk : j ≠ k0 := fun e => by
        subst e
        have h2 := leads_ready hleg hlead hj
        have h0 := (mem_ready.1 hr).1
        rcases Nat.lt_or_ge i listed.size with h' | h'
        · simp [h'] at h0 h2; rw [h0] at h2; cases h2
        · simp [Array.getElem?_eq_none h'] at h2
      obtain ⟨hjun, oj, hoj, hall⟩ := mem_ready.1 hj
      have hnot : ∀ e ∈ oj.after, Region.binds md e = true → e.on ≠ i := fun e he hb heq => by
        have h1 := hall e he hb
        have h0 := (mem_ready.1 hr).1
        rw [heq] at h1
        rcases Nat.lt_or_ge i listed.size with h' | h'
        · simp [h'] at h0 h1; rw [h0] at h1; cases h1
        · simp [Array.getElem?_eq_none h'] at h1
      have h2 := wpOp_putIf hoj (hfree j oj hoj hji hjun hnot) (fun cs b => hsel i oi cs b hi) (fun cs b => hsel j oj cs b hoj) hQ hy h1
      have hfree' : ∀ k ok, ops[k]? = some ok → k ≠ i → (listed.setIfInBounds j true).getD k true = false →
          (∀ e ∈ ok.after, Region.binds md e = true → e.on ≠ i) → oi.apart ops ok = true := fun k ok hk hki hun hno => by
        refine hfree k ok hk hki ?_ hno
        by_cases hjk : j = k
        · subst hjk; exact hjun
        · rw [getD_set_ne true hjk] at hun; exact hun
      refine wpOp_mono (fun a' w' h3 => ?_) h2
      have hS3 : S w' := h3.2.1.resolve_right hjk
      refine ⟨.inl hS3, ih (listed.setIfInBounds j true) a' w' (hleg.step hj) hfree' (ready_mono hr (Ne.symm hji)) h3.1 hS3 ?_⟩
      rw [Array.setIfInBounds_comm _ _ hji]
      exact h3.2.2

theorem wpAnyE_take {i : Nat} {oi : Oper} {v : Value} {fuel : Nat} {listed : Array Bool} {a : Act} {w : World} (hi : ops[i]? = some oi)
    (hs : Region.noSelect ops = true) (hf : Region.free md ops listed i = true) (hr : (Region.ready md ops listed).contains i = true) (hl : legalB md ops listed = true) (hlead : leadsB md ops 40 k0 i = true)
    (hQ : ∀ c a w, Q (.panic c) (a.put oi.dst v) w → Q (.panic c) a w) (hy : YieldsIf P ops S oi v a) (hS : S w)
    (h : wpAnyE P md ops Q S k0 fuel (listed.setIfInBounds i true) (a.put oi.dst v) w) : wpAnyE P md ops Q S k0 (fuel + 1) listed a w :=
  wpAnyE_first hi (Region.noSelect_spec hs) hlead hQ fuel listed a w (legalB_spec hl) (Region.free_spec hi hf) (by simpa using hr) hy hS h

theorem tkE {i : Nat} {oi : Oper} {v : Value} {a2 : Act} {fuel : Nat} {listed : Array Bool} {a : Act} {w : World} (hi : ops[i]? = some oi) (hS : S w) (h : wpAnyE P md ops Q S k0 fuel (listed.setIfInBounds i true) a2 w)
    (hs : Region.noSelect ops = true := by kernel_rfl) (hf : Region.free md ops listed i = true := by kernel_rfl) (hr : (Region.ready md ops listed).contains i = true := by kernel_rfl) (hl : legalB md ops listed = true := by kernel_rfl) (hlead : leadsB md ops 40 k0 i = true := by kernel_rfl)
    (hQ : ∀ c a w, Q (.panic c) (a.put oi.dst v) w → Q (.panic c) a w := by exact fun _ _ _ h => h)
    (hy : YieldsIf P ops S oi v a := by exact Or.inl ⟨by rfl, by (intro w hSw; (try dsimp only at hSw); (try obtain ⟨hSw1, hSw2, hSw3⟩ := hSw); go_simp <;> with_reducible rfl)⟩)
    (hp : a.put oi.dst v = a2 := by (simp only [Act.put, List.getElem_toArray, List.getElem_cons_zero, List.getElem_cons_succ, List.setIfInBounds_toArray, List.set_cons_zero, List.set_cons_succ]; rfl)) : wpAnyE P md ops Q S k0 (fuel + 1) listed a w := by
  subst hp
  exact wpAnyE_take hi hs hf hr hl hlead hQ hy hS h

theorem wpAnyE_all {rs : List Nat} {fuel : Nat} {listed : Array Bool} {a : Act} {w : World} (hr : Region.ready md ops listed = rs) (hne : rs ≠ [])
    (h : ∀ i ∈ rs, wpOp P ops Q i (fun a' w' => (S w' ∨ i = k0) ∧ wpAnyE P md ops Q S k0 fuel (listed.setIfInBounds i true) a' w') a w) : wpAnyE P md ops Q S k0 (fuel + 1) listed a w :=
  ⟨fun h0 => absurd (hr ▸ h0) hne, hr ▸ h⟩

theorem wpAnyE_done {listed : Array Bool} {a : Act} {w : World} (hr : Region.ready md ops listed = []) (h : Q .normal a w) :
    ∀ fuel, wpAnyE P md ops Q S k0 fuel listed a w
  | 0 => ⟨hr, h⟩
  | _ + 1 => ⟨fun _ => h, by rw [hr]; simp⟩

/-- In the body of a loop over a function. -/
theorem last_in_round {l n id : Nat} {a : Act} {w : World} (S : World → Prop) (k0 : Nat) (hm : P.follows .mixedOrders = true) (hd : plainOps ops = true) (hQ : ¬ LetsOut Q)
    (h : wpAnyE P .any ops Q S k0 ops.size (Array.replicate ops.size false) a w.drew) : (Code.region id ops true).wpIn (Fence.wide.inRound l) n P Q a w :=
  region_in_round hm hd hQ (wpAny_of_E _ _ _ _ h)
end


section
variable {P : Program} {md : Region.Mode} {ops : Array Oper} {Q : Exit → Act → World → Prop} {S : World → Prop} {fuel : Nat} {listed : Array Bool} {a : Act} {w : World} {i k0 : Nat} {oi : Oper}

theorem takeE_one (hr : Region.ready md ops listed = [i]) (hi : ops[i]? = some oi) (gi : oi.guard = none)
    (h : oi.wp P a w (fun a' w' => (S w' ∨ i = k0) ∧ wpAnyE P md ops Q S k0 fuel (listed.setIfInBounds i true) a' w') Q) : wpAnyE P md ops Q S k0 (fuel + 1) listed a w := by
  refine wpAnyE_all hr (by simp) fun k hk => ?_
  simp only [List.mem_cons, List.not_mem_nil, or_false] at hk
  subst hk
  unfold wpOp
  simp only [hi, show Region.wanted oi (yielded ops a.tmps) = true by simp [Region.wanted, gi], if_true]
  exact .inl h

theorem takeE_value {v : Value} {w' : World} (hr : Region.ready md ops listed = [i]) (hi : ops[i]? = some oi) (gi : oi.guard = none) (hrun : (execOp a.eval oi).run P w = .ok (.value v) w') (hS : S w')
    (h : wpAnyE P md ops Q S k0 fuel (listed.setIfInBounds i true) (a.put oi.dst v) w') : wpAnyE P md ops Q S k0 (fuel + 1) listed a w :=
  takeE_one hr hi gi (by
    unfold Oper.wp
    rw [hrun]
    exact ⟨.inl hS, h⟩)

theorem takeE_call {f : FuncId} {xs : Array Operand} {ts : Array TypeId} (args : Array Value) (R : Value → World → Prop) (hr : Region.ready md ops listed = [i]) (hi : ops[i]? = some oi) (gi : oi.guard = none)
    (ki : oi.op = .call { callee := .value (.func f), args := xs, argTypes := ts }) (ea : xs.map a.eval = args) (ef : ∀ args w, (callFunc f args).run P w = .ok (.enter f args) w)
    (hc : Calls P f args w fun e w' => ∃ v, e = .returned v ∧ R v w')
    (h : ∀ v w', R v w' → S w' ∧ wpAnyE P md ops Q S k0 fuel (listed.setIfInBounds i true) (a.put oi.dst v) w') : wpAnyE P md ops Q S k0 (fuel + 1) listed a w :=
  takeE_one hr hi gi (by
    unfold Oper.wp execOp
    simp only [ki, resolve, ea, Act.eval, Deferred.ofValue, invoke, Sem.run_bind, Sem.run_pure, Result.andThen_ok, Array.append_empty, Array.empty_append, ef]
    exact hc.mono fun e w' ⟨v, he, hR⟩ => by subst he; exact ⟨.inl (h v w' hR).1, (h v w' hR).2⟩)

theorem takeE_build {t : TypeId} {parts : Array (Nat × Operand)} (ps : List (Nat × Value)) (cells : Array Value) (hr : Region.ready md ops listed = [i]) (hi : ops[i]? = some oi) (gi : oi.guard = none)
    (ki : oi.op = .build t parts) (ep : (parts.map fun (i, x) => (i, a.eval x)).toList = ps) (hb : P.built t ps = some cells) (hS : S w)
    (h : wpAnyE P md ops Q S k0 fuel (listed.setIfInBounds i true) (a.put oi.dst (.agg cells)) w) : wpAnyE P md ops Q S k0 (fuel + 1) listed a w :=
  takeE_value hr hi gi (by
    unfold execOp
    simp only [ki]
    rw [Sem.run_bind, run_build w t _ cells (by rw [ep]; exact hb)]
    rfl) hS h

/-- A slice of one, of a value of several cells. -/
theorem takeE_slice {t e : TypeId} {parts : Array (Nat × Operand)} (cells : Array Value) (ie : TypeInfo) (z : Value) (hr : Region.ready md ops listed = [i]) (hi : ops[i]? = some oi) (gi : oi.guard = none)
    (ki : oi.op = .buildSlice t 1 parts) (ep : (parts.map fun (i, x) => (i, a.eval x)).toList = [(0, .agg cells)])
    (hu : P.underlying t = some (.slice e)) (hie : P.info? e = some ie) (hz : ie.zero = some z) (hzs : ie.size = cells.size) (hsmall : cells.size ≤ 2 ^ 24) (hpos : 0 < cells.size)
    (hS : S (w.alloc (.cells cells e)))
    (h : wpAnyE P md ops Q S k0 fuel (listed.setIfInBounds i true) (a.put oi.dst (.slice (some ⟨w.heap.size, 0, none⟩) 1 1)) (w.alloc (.cells cells e))) : wpAnyE P md ops Q S k0 (fuel + 1) listed a w :=
  takeE_value hr hi gi (by
    unfold execOp
    simp only [ki]
    rw [Sem.run_bind, run_buildSlice w t e 1 _ cells ie z hu hie hz (by rw [hzs]; omega) (by rw [hzs]; omega) (by
      rw [ep, hzs]
      have := Go.Great.fill_whole (s := cells.size) hpos [.agg cells] ((Array.range (1 * cells.size)).map (z.cells[· % z.cells.size]!)) (by simp [Value.cells]) (by simp)
      simpa [Value.cells] using this)]
    rfl) hS h

theorem takeE_append {s x : Operand} {t : TypeId} (hr : Region.ready md ops listed = [i]) (hi : ops[i]? = some oi) (gi : oi.guard = none)
    (ki : oi.op = .call { callee := .builtin .append, args := #[s, x], argTypes := #[t, t] })
    (base : Nat) (e : TypeId) (ie : TypeInfo) (z : Value) (size bytes : Nat) (ht : P.underlying t = some (.slice e)) (hie : P.info? e = some ie) (hz : ie.zero = some z)
    (hsize : ie.size = size) (hby : ie.bytes = bytes) (hzs : z.cells.size = size) (hsz : 0 < size)
    (v : Value) (n : Nat) (xs : List Value) (hs : a.eval s = v) (hown : w.ownsRow base e size v n xs)
    (ad : Addr) (m c : Nat) (news : List Value) (hx : a.eval x = .slice (some ad) m c) (hl : news.length = m * size) (hnews : ∀ j u, news[j]? = some u → w.cell? (ad.add j) = some u) (h1 : ∀ u ∈ news, u.oneCell' = true)
    (hm : 0 < m) (h63 : n + m ≤ maxLen) (hbytes : (n + m) * bytes ≤ 140737488355328) (hbase : base ≤ w.heap.size)
    (h : ∀ g cap w', w'.ownsRow base e size (.slice (some ⟨g, 0, none⟩) (n + m) cap) (n + m) (xs ++ news) → w.grownBy w' v.ownBlock → (v.ownBlock = some g ∨ g = w.heap.size) → g < w'.heap.size →
      S w' ∧ wpAnyE P md ops Q S k0 fuel (listed.setIfInBounds i true) (a.put oi.dst (.slice (some ⟨g, 0, none⟩) (n + m) cap)) w') : wpAnyE P md ops Q S k0 (fuel + 1) listed a w :=
  takeE_one hr hi gi (wp_append_lies w s x t ki base e ie z size bytes ht hie hz hsize hby hzs hsz v n xs hs hown ad m c news hx hl hnews h1 hm h63 hbytes hbase _ rfl fun g cap w' h1 h2 h3 h4 => ⟨.inl (h g cap w' h1 h2 h3 h4).1, (h g cap w' h1 h2 h3 h4).2⟩)

theorem run_store_one (w : World) (ty : TypeId) (hi : (P.info? ty).map (·.size) = some 1) (ad : Addr) (v u : Value) (hv : v.cells = #[v]) (h1 : v.oneCell' = true) (hc : w.cell? ad = some u) (hf : w.frozen? ad = false) : (storeVar ty ad v).run P w = .ok () (w.setCell ad v) := by
  cases hq : P.info? ty with
  | none => simp [hq] at hi
  | some i =>
    have hs : i.size = 1 := by simpa [hq] using hi
    have h1 : (store ad v).run P w = .ok () (w.setCell ad v) := by
      rw [run_store P w ad v .plain h1, hc]
      simp [hf]
    simp [storeVar, sizeOf, typeInfo, hq, hv, hs, storeCells, Addr.add, h1]

theorem takeE_store {ty : TypeId} {x y : Operand} {pi : Addr} {u v : Value} (hs : (P.info? ty).map (·.size) = some 1) (hr : Region.ready md ops listed = [i]) (hi : ops[i]? = some oi) (gi : oi.guard = none) (di : oi.dst = none)
    (ki : oi.op = .store ty x y) (ei : a.eval x = .pointer (some pi)) (ey : a.eval y = v) (hv : v.cells = #[v]) (h1 : v.oneCell' = true) (ci : w.cell? pi = some u) (cf : w.frozen? pi = false) (hS : S (w.setCell pi v) ∨ i = k0)
    (h : wpAnyE P md ops Q S k0 fuel (listed.setIfInBounds i true) a (w.setCell pi v)) : wpAnyE P md ops Q S k0 (fuel + 1) listed a w :=
  takeE_one hr hi gi (by
    unfold Oper.wp execOp
    simp only [ki, ei, ey, Instr.storeAt, Instr.sureAddr, Sem.run_bind, Sem.run_pure, Result.andThen_ok, run_store_one w ty hs pi v u hv h1 ci cf, Oper.upon, di]
    exact ⟨hS, h⟩)
end

theorem noGoto_normal (Q : Exit → Act → World → Prop) (a : Act) (w : World) : Exit.noGoto Q .normal a w = Q .normal a w := rfl

theorem wpIn_scope_wide {P : Program} {n : Nat} {c : Code} {Q : Exit → Act → World → Prop} {a : Act} {w : World} (h : c.wpIn Fence.wide n P (Exit.noGoto Q) a w) : (Code.scope c).wpIn Fence.wide n P Q a w :=
  wpIn_wide.2 (wp_scope_straight (wpIn_wide.1 h))

/-- Three new blocks. -/
theorem alloc3 (w : World) (o1 o2 o3 : Obj) : (((w.alloc o1).alloc o2).alloc o3).heap[w.heap.size]? = some o1 ∧ (((w.alloc o1).alloc o2).alloc o3).heap[w.heap.size + 1]? = some o2 ∧ (((w.alloc o1).alloc o2).alloc o3).heap[w.heap.size + 2]? = some o3 ∧
    Below w.heap.size w (((w.alloc o1).alloc o2).alloc o3) ∧ (((w.alloc o1).alloc o2).alloc o3).heap.size = w.heap.size + 3 := by
  have s1 : (w.alloc o1).heap.size = w.heap.size + 1 := World.size_alloc _ _
  have s2 : ((w.alloc o1).alloc o2).heap.size = w.heap.size + 2 := by rw [World.size_alloc, s1]
  have b1 := (Below.refl (w.alloc o1).heap.size (w.alloc o1)).alloc (Nat.le_refl _) o2
  have b2 := (Below.refl ((w.alloc o1).alloc o2).heap.size ((w.alloc o1).alloc o2)).alloc (Nat.le_refl _) o3
  have n1 := World.alloc_heap_new w o1
  have n2 := World.alloc_heap_new (w.alloc o1) o2
  have n3 := World.alloc_heap_new ((w.alloc o1).alloc o2) o3
  rw [s1] at n2
  rw [s2] at n3
  refine ⟨(b2.block _ (by omega)).trans ((b1.block _ (by omega)).trans n1), (b2.block _ (by omega)).trans n2, n3, (((Below.refl _ w).alloc (Nat.le_refl _) _).alloc (by omega) _).alloc (by omega) _, by rw [World.size_alloc, s2]⟩

/-- A row of a call's own stands a loop's own changes. -/
theorem row_own {B B' e s n : Nat} {v : Value} {xs : List Value} {W W' : World} {row : Option Nat} (h : W.ownsRow B' e s v n xs) (hg : W.grownBy W' row) (hr : ∀ r, row = some r → B ≤ r ∧ ∃ o : Obj, W.heap[r]? = some o ∧ o.isCells = false) : W'.ownsRow B' e s v n xs := by
  refine (Spares.of_grown (S := fun i => row = some i) hg (fun k e => e)).row h fun g hv hs => ?_
  rcases h.2 with ⟨rfl, _⟩ | ⟨g', cap, cur, rfl, _, hg', _⟩
  · cases hv
  · have : g' = g := by simpa [Value.ownBlock] using hv
    subst this
    obtain ⟨_, o, ho, hc⟩ := hr g' hs
    rw [hg'] at ho
    cases ho
    cases hc

theorem row_cells {W : World} {B e s n : Nat} {v : Value} {xs : List Value} (h : W.ownsRow B e s v n xs) {g : Nat} (hg : v.ownBlock = some g) : ∃ cs t fr, W.heap[g]? = some (.cells cs t fr) := by
  rcases h.2 with ⟨rfl, _⟩ | ⟨g', cap, cur, rfl, _, hg', _⟩
  · cases hg
  · have : g' = g := by simpa [Value.ownBlock] using hg
    subst this
    exact ⟨_, _, _, hg'⟩

/-- Of blocks that hold cells alone some may turn: what a loop keeps there stays. -/
theorem keepsFrom_of {S : Nat → Prop} {B : Nat} {W W' : World} (h : Spares S W W') (hS : ∀ i, S i → ∃ cs t fr, W.heap[i]? = some (.cells cs t fr)) : KeepsFrom B W W' :=
  ⟨h.size, fun k o _ hk ho => (h.block k (Array.getElem?_eq_some_iff.1 hk).1 (fun hs => by
    obtain ⟨cs, t, fr, hc⟩ := hS k hs
    rw [hk] at hc
    cases hc
    cases ho)).trans hk⟩

theorem callsIn_round {l n : Nat} {P : Program} {f : FuncId} {args : Array Value} {w : World} {R : Ending → World → Prop} (h : Calls P f args w R) : CallsIn (Fence.wide.inRound l) n P f args w R := callsIn_wide.2 h

/-- The blocks of a tree of nodes stand a change of others. -/
theorem spares_own {S : Nat → Prop} {w : World} {B : Nat} (hB : w.heap.size ≤ B) {β : Type} : OwnFrom B (fun (_ : β) (W : World) => Spares S w W) := fun _ W W' row hs hg hr =>
  hs.andThen (T := fun i => row = some i) (Spares.of_grown hg (fun k e => e)) (fun i hi => .inr (by have := (hr i hi).1; omega))

theorem cells_own {B g : Nat} {cs : Array Value} {t : TypeId} {β : Type} : OwnFrom B (fun (_ : β) (W : World) => W.heap[g]? = some (.cells cs t (0, 0))) := fun _ W W' row hs hg hr => by
  show W'.heap[g]? = _
  rw [hg.block g (Array.getElem?_eq_some_iff.1 hs).1 (fun e => ?_)]
  · exact hs
  · obtain ⟨_, o, ho, hc⟩ := hr g e.symm
    rw [hs] at ho
    cases ho
    cases hc

theorem roundIn_any {m m' : Nat} {P : Program} {l : Nat} {f : FuncId} {tmps : Array Value} {assign body : Code} {w : World} {R : Ending → World → Prop}
    (h : RoundIn Fence.wide m P l f tmps assign body w R) : RoundIn Fence.wide m' P l f tmps assign body w R := ⟨h.1, fun c cs _ => h.2 c cs (fun d h => by cases h)⟩

theorem yieldAt_any {m : Nat} (m' : Nat) {P : Program} {l : Nat} {args : Array Value} {W : World} {R : Ending → World → Prop} (h : YieldAt Fence.wide m P l args W R) : YieldAt Fence.wide m' P l args W R := by
  obtain ⟨fn, tmps, assign, body, hy, hR⟩ := h
  exact ⟨fn, tmps, assign, body, hy, roundIn_any hR⟩

theorem oper_wide {n : Nat} {P : Program} {o : Oper} {a : Act} {w : World} {K : Act → World → Prop} {Q : Exit → Act → World → Prop} (hd : ∀ c, o.op ≠ .defer c) (h : o.wp P a w K Q) : o.wpIn Fence.wide n P a w K Q := by
  unfold Oper.wp at h
  unfold Oper.wpIn
  refine ⟨fun _ _ => trivial, ?_⟩
  rw [show Fence.wide.round = none from rfl]
  rw [show o.semAt none a.eval = execOp a.eval o from rfl]
  generalize (execOp a.eval o).run P w = r at *
  cases r with
  | ok x w' =>
    cases x <;> simp only [Oper.upon, Oper.uponIn] at h ⊢
    case value v => exact h
    case skip => exact h
    case defer d => exact h
    case enter f args => exact ⟨fun h => (by cases h), callsIn_wide.2 h⟩
    case row row args => exact ⟨fun h => (by cases h), rowsIn_wide h⟩
  | halt x w' =>
    cases x <;> simp only [Oper.upon, Oper.uponIn] at h ⊢
    case panic v => exact h

theorem listRound_op {l n : Nat} {P : Program} {ops : Array Oper} {rest : List Oper} {o : Oper} {a : Act} {w : World} {Q : Exit → Act → World → Prop} (hw : Region.wanted o (yielded ops a.tmps) = true) (hd : ∀ c, o.op ≠ .defer c)
    (h : o.wp P a w (wpListIn (Fence.wide.inRound l) n P ops Q rest) Q) : wpListIn (Fence.wide.inRound l) n P ops Q (o :: rest) a w := by
  unfold wpListIn
  rw [if_pos hw]
  exact oper_in_round hd h

/-- The marks that loops over a function leave. -/
def marks (Ds : List Nat) : List Deferred := Ds.map fun D => { target := .collected D, args := #[] }

theorem marks_cons (D : Nat) (Ds : List Nat) : ({ target := .collected D, args := #[] } : Deferred) :: marks Ds = marks (D :: Ds) := rfl

/-- Blocks that await deferred calls. -/
def Waits (w : World) (Ds : List Nat) : Prop := Ds.Nodup ∧ ∀ D ∈ Ds, w.heap[D]? = some (.deferred (some []))

theorem waits_nil (w : World) : Waits w [] := ⟨List.nodup_nil, fun D h => (by cases h)⟩

theorem Waits.spares {S : Nat → Prop} {w w' : World} {Ds : List Nat} (h : Waits w Ds) (hk : Spares S w w') (hS : ∀ i, S i → ∃ cs t fr, w.heap[i]? = some (.cells cs t fr)) : Waits w' Ds :=
  ⟨h.1, fun D hD => (hk.block D (block_lt (h.2 D hD)) (fun hs => by
    obtain ⟨cs, t, fr, hc⟩ := hS D hs
    rw [h.2 D hD] at hc
    cases hc)).trans (h.2 D hD)⟩

theorem Waits.new {w w' : World} {Ds : List Nat} (h : Waits w Ds) (hb : Below w.heap.size w w') : Waits w' Ds := h.spares (S := fun _ => False) (Spares.of_new hb) (fun i hi => hi.elim)

theorem Waits.cons {w : World} {Ds : List Nat} {D : Nat} (h : Waits w Ds) (hD : w.heap[D]? = some (.deferred (some []))) (hn : ∀ E ∈ Ds, E < D) : Waits w (D :: Ds) :=
  ⟨List.nodup_cons.2 ⟨fun hm => by have := hn D hm; omega, h.1⟩, fun E hE => by
    rcases List.mem_cons.1 hE with rfl | hE
    · exact hD
    · exact h.2 E hE⟩

theorem Waits.lt {w : World} {Ds : List Nat} (h : Waits w Ds) : ∀ D ∈ Ds, D < w.heap.size := fun D hD => block_lt (h.2 D hD)

/-- The marks are come to. -/
theorem leaves_marks {n : Nat} {P : Program} {fn : Func} {tmps : Array Value} {R : Ending → World → Prop} : ∀ (Ds : List Nat) (w : World), Waits w Ds → (∀ w', Spares (fun i => i ∈ Ds) w w' → w'.heap.size = w.heap.size → LeavesIn Fence.wide n P fn tmps R [] .returning w') →
    LeavesInM Fence.wide n P fn tmps R (marks Ds) .returning w
  | [], w, _, h => h w (Spares.refl _ _) rfl
  | D :: Ds, w, hw, h => by
    have hD := hw.2 D (by simp)
    refine ⟨by simp, .inl ⟨D, _, rfl, run_takeDeferred hD, leaves_marks Ds _ ⟨(List.nodup_cons.1 hw.1).2, fun E hE => ?_⟩ fun w' hs hz => h w' ?_ (hz.trans World.putObj_size)⟩⟩
    · rw [World.putObj_heap_other (fun e => (List.nodup_cons.1 hw.1).1 (by rw [← e]; exact hE))]
      exact hw.2 E (by simp [hE])
    · have h1 : Spares (fun i => i ∈ D :: Ds) w (w.putObj D (.deferred none)) := ⟨rfl, rfl, rfl, by simp, fun k _ hk => World.putObj_heap_other (fun e => hk (by simp [e]))⟩
      exact h1.andThen hs (fun i hi => .inl (by simp [hi]))
end Go.Proofs.Ytjfipejfejmlaaa
