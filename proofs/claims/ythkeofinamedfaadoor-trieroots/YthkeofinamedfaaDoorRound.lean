/- Regions that draw their order, in the body of a loop over a function: what is shown of them outside serves inside. Nothing of the program is named here. -/
import Derived.Test.YthkeofinamedfaaDoorDownF
import Derived.OrdersHeld
import Derived.Deep.Quiet
import Derived.BigQuiet
namespace Go.Proofs.YthkeofinamedfaaDoor
open Go.RowKit
set_option linter.unusedVariables false

theorem rowsIn_wide {n : Nat} {P : Program} {row : String} {args : Array Value} {w : World} {R : Value → World → Prop} (h : Rows P row args w R) : RowsIn Fence.wide n P row args w R :=
  fun c cs _ => let ⟨v, w', r, s⟩ := h c cs; ⟨v, w', r, stepsIn_wide.2 s⟩

theorem oper_in_round {l n : Nat} {P : Program} {o : Oper} {a : Act} {w : World} {K : Act → World → Prop} {Q : Exit → Act → World → Prop} (hd : ∀ c, o.op ≠ .defer c) (h : o.wp P a w K Q) : o.wpIn (Fence.wide.inRound l) n P a w K Q := by
  unfold Oper.wp at h
  unfold Oper.wpIn
  refine ⟨fun _ _ => trivial, ?_⟩
  rw [Fence.inRound_round, Oper.semAt_some l _ _ hd]
  generalize (execOp a.eval o).run P w = r at *
  cases r with
  | ok x w' =>
    cases x <;> simp only [Oper.upon, Oper.uponIn] at h ⊢
    case value v => exact h
    case skip => exact h
    case defer d => exact h
    case enter f args => exact ⟨fun h => (by cases h), callsIn_wide.2 h⟩
    case row row args => exact ⟨fun h => (by cases h), rowsIn_wide h⟩
  | halt x w' =>
    cases x <;> simp only [Oper.upon, Oper.uponIn] at h ⊢
    case panic v => exact h

/-- No statement that defers. -/
def plainOps (ops : Array Oper) : Bool := ops.all fun o => match o.op with | .defer _ => false | _ => true

theorem plainOps_spec {ops : Array Oper} (h : plainOps ops = true) {i : Nat} {o : Oper} (ho : ops[i]? = some o) : ∀ c, o.op ≠ .defer c := by
  intro c e
  have := Array.all_eq_true_iff_forall_mem.1 h o (Array.mem_of_getElem? ho)
  rw [e] at this
  cases this

theorem wpAnyIn_of_any {l n : Nat} {P : Program} {md : Region.Mode} {ops : Array Oper} {Q : Exit → Act → World → Prop} (hd : plainOps ops = true) (hQ : ¬ LetsOut Q) :
    ∀ (fuel : Nat) (listed : Array Bool) (a : Act) (w : World), wpAny P md ops Q fuel listed a w → wpAnyIn (Fence.wide.inRound l) n P md ops Q fuel listed a w
  | 0, _, _, _, h => h
  | fuel + 1, listed, a, w, h => ⟨h.1, fun i hi => by
    have := h.2 i hi
    unfold wpOp at this
    unfold wpOpIn
    cases ho : ops[i]? with
    | none => simp only [ho] at this ⊢; exact wpAnyIn_of_any hd hQ fuel _ _ _ this
    | some o =>
      simp only [ho] at this ⊢
      split
      · rename_i hw
        simp only [hw, if_true] at this
        rcases this with this | ⟨_, hlo⟩
        · exact Oper.wpIn_mono (fun a w h => wpAnyIn_of_any hd hQ fuel _ a w h) (oper_in_round (plainOps_spec hd ho) this)
        · exact absurd hlo hQ
      · rename_i hw
        simp only [hw] at this
        exact ⟨fun _ _ => trivial, wpAnyIn_of_any hd hQ fuel _ _ _ this⟩⟩

theorem region_in_round {l n id : Nat} {P : Program} {ops : Array Oper} {Q : Exit → Act → World → Prop} {a : Act} {w : World} (hm : P.follows .mixedOrders = true) (hd : plainOps ops = true) (hQ : ¬ LetsOut Q)
    (h : wpAny P .any ops Q ops.size (Array.replicate ops.size false) a w.drew) : (Code.region id ops true).wpIn (Fence.wide.inRound l) n P Q a w :=
  wpIn_region_any hm (wpAnyIn_of_any hd hQ _ _ _ _ h)

/-- A region that only reads. -/
theorem quiet_in_round {l n id : Nat} {P : Program} {ls : List Oper} {Q : Exit → Act → World → Prop} {a : Act} {w : World} (hm : P.follows .mixedOrders = true) (hB : Region.lexB .any ls.toArray = true) (hd : plainOps ls.toArray = true) (hQ : ¬ LetsOut Q)
    (h : wpQuiet P ls.toArray (fun w' => ∃ n, w' = w.drewN n) (fun a' => ∀ w', (∃ n, w' = w.drewN n) → Q .normal a' w') ls a) : (Code.region id ls.toArray true).wpIn (Fence.wide.inRound l) n P Q a w := by
  simp only [Region.lexB, Bool.and_eq_true] at hB
  refine region_in_round hm hd hQ (wpAny_of_quiet (C := fun w' => ∃ n, w' = w.drewN n) (Q := fun a' => ∀ w', (∃ n, w' = w.drewN n) → Q .normal a' w') (fun _ w' hw' h => h w' hw') _ _ _ _ ⟨1, rfl⟩ ?_)
  have := wpAnyQ_lex (P := P) (C := fun w' => ∃ n, w' = w.drewN n) (Q := fun a' => ∀ w', (∃ n, w' = w.drewN n) → Q .normal a' w') (md := .any) hB.1 ls 0 (Array.replicate ls.toArray.size false) a (by simp) (by simpa using hB.2) h
  simpa using this

/-- A region over a condition that every world on the way meets. -/
theorem held_in_round {l n id : Nat} {P : Program} {ops : Array Oper} {Q : Exit → Act → World → Prop} {a : Act} {w : World} (S : World → Prop) (hm : P.follows .mixedOrders = true) (hd : plainOps ops = true) (hQ : ¬ LetsOut Q)
    (h : wpAnyH P .any ops Q S ops.size (Array.replicate ops.size false) a w.drew) : (Code.region id ops true).wpIn (Fence.wide.inRound l) n P Q a w :=
  region_in_round hm hd hQ (wpAny_of_held _ _ _ _ h)
theorem run_load_ptr {P : Program} (w : World) (ty e : TypeId) (hu : P.underlying ty = some (.pointer e)) (ad : Addr) (v : Value) (hc : w.cell? ad = some v) : (loadVar ty ad).run P w = .ok v w := by
  simp [loadVar, isAgg, Sem.run_bind, run_underlying hu, hc]

theorem run_store_ptr {P : Program} (w : World) (ty : TypeId) (hi : (P.info? ty).map (·.size) = some 1) (ad : Addr) (p : Option Addr) (u : Value) (hc : w.cell? ad = some u) (hf : w.frozen? ad = false) : (storeVar ty ad (.pointer p)).run P w = .ok () (w.setCell ad (.pointer p)) := by
  cases hq : P.info? ty with
  | none => simp [hq] at hi
  | some i =>
    have hs : i.size = 1 := by simpa [hq] using hi
    have h1 : (store ad (.pointer p)).run P w = .ok () (w.setCell ad (.pointer p)) := by
      rw [run_store P w ad (.pointer p) .plain rfl, hc]
      simp [hf]
    simp [storeVar, sizeOf, typeInfo, hq, Value.cells, hs, storeCells, Addr.add, h1]

/-- Two loads that may come either way round. -/
theorem take_loads {P : Program} {md : Region.Mode} {ops : Array Oper} {Q : Exit → Act → World → Prop} {fuel : Nat} {listed : Array Bool} {a : Act} {w : World} {i j : Nat} {oi oj : Oper} {ty : TypeId} {xi xj : Operand} {pi pj : Addr} {vi vj : Value} (e : TypeId) (hu : P.underlying ty = some (.pointer e))
    (hr : Region.ready md ops listed = [i, j]) (hi : ops[i]? = some oi) (hj : ops[j]? = some oj) (gi : oi.guard = none) (gj : oj.guard = none) (ki : oi.op = .load ty xi) (kj : oj.op = .load ty xj) (ei : a.eval xi = .pointer (some pi)) (ej : a.eval xj = .pointer (some pj)) (ci : w.cell? pi = some vi) (cj : w.cell? pj = some vj)
    (h1 : wpAny P md ops Q fuel (listed.setIfInBounds i true) (a.put oi.dst vi) w) (h2 : wpAny P md ops Q fuel (listed.setIfInBounds j true) (a.put oj.dst vj) w) : wpAny P md ops Q (fuel + 1) listed a w := by
  refine wpAny_all hr (by simp) fun k hk => ?_
  simp only [List.mem_cons, List.not_mem_nil, or_false] at hk
  rcases hk with rfl | rfl
  · unfold wpOp
    simp only [hi, show Region.wanted oi (yielded ops a.tmps) = true by simp [Region.wanted, gi], if_true]
    refine .inl ?_
    unfold Oper.wp execOp
    simp only [ki, ei, Instr.loadAt, Instr.sureAddr, Sem.run_bind, Sem.run_pure, Result.andThen_ok, run_load_ptr w ty e hu pi vi ci]
    exact h1
  · unfold wpOp
    simp only [hj, show Region.wanted oj (yielded ops a.tmps) = true by simp [Region.wanted, gj], if_true]
    refine .inl ?_
    unfold Oper.wp execOp
    simp only [kj, ej, Instr.loadAt, Instr.sureAddr, Sem.run_bind, Sem.run_pure, Result.andThen_ok, run_load_ptr w ty e hu pj vj cj]
    exact h2

theorem take_load {P : Program} {md : Region.Mode} {ops : Array Oper} {Q : Exit → Act → World → Prop} {fuel : Nat} {listed : Array Bool} {a : Act} {w : World} {i : Nat} {oi : Oper} {ty : TypeId} {xi : Operand} {pi : Addr} {vi : Value} (e : TypeId) (hu : P.underlying ty = some (.pointer e))
    (hr : Region.ready md ops listed = [i]) (hi : ops[i]? = some oi) (gi : oi.guard = none) (ki : oi.op = .load ty xi) (ei : a.eval xi = .pointer (some pi)) (ci : w.cell? pi = some vi)
    (h1 : wpAny P md ops Q fuel (listed.setIfInBounds i true) (a.put oi.dst vi) w) : wpAny P md ops Q (fuel + 1) listed a w := by
  refine wpAny_all hr (by simp) fun k hk => ?_
  simp only [List.mem_cons, List.not_mem_nil, or_false] at hk
  subst hk
  unfold wpOp
  simp only [hi, show Region.wanted oi (yielded ops a.tmps) = true by simp [Region.wanted, gi], if_true]
  refine .inl ?_
  unfold Oper.wp execOp
  simp only [ki, ei, Instr.loadAt, Instr.sureAddr, Sem.run_bind, Sem.run_pure, Result.andThen_ok, run_load_ptr w ty e hu pi vi ci]
  exact h1

theorem take_store {P : Program} {md : Region.Mode} {ops : Array Oper} {Q : Exit → Act → World → Prop} {fuel : Nat} {listed : Array Bool} {a : Act} {w : World} {i : Nat} {oi : Oper} {ty : TypeId} {x y : Operand} {pi : Addr} {u : Value} {p : Option Addr} (hs : (P.info? ty).map (·.size) = some 1)
    (hr : Region.ready md ops listed = [i]) (hi : ops[i]? = some oi) (gi : oi.guard = none) (di : oi.dst = none) (ki : oi.op = .store ty x y) (ei : a.eval x = .pointer (some pi)) (ey : a.eval y = .pointer p) (ci : w.cell? pi = some u) (cf : w.frozen? pi = false)
    (h1 : wpAny P md ops Q fuel (listed.setIfInBounds i true) a (w.setCell pi (.pointer p))) : wpAny P md ops Q (fuel + 1) listed a w := by
  refine wpAny_all hr (by simp) fun k hk => ?_
  simp only [List.mem_cons, List.not_mem_nil, or_false] at hk
  subst hk
  unfold wpOp
  simp only [hi, show Region.wanted oi (yielded ops a.tmps) = true by simp [Region.wanted, gi], if_true]
  refine .inl ?_
  unfold Oper.wp execOp
  simp only [ki, ei, ey, Instr.storeAt, Instr.sureAddr, Sem.run_bind, Sem.run_pure, Result.andThen_ok, run_store_ptr w ty hs pi p u ci cf, Oper.upon, di]
  exact h1
end Go.Proofs.YthkeofinamedfaaDoor
