/- Contract of proof.Check. -/
import Derived.Test.YtmafaioohiaenaaDoorCheckF
namespace Go.Proofs.YtmafaioohiaenaaDoor
open Go.RowKit Go.Shelf
set_option linter.unusedVariables false
set_option linter.unusedSimpArgs false
set_option maxRecDepth 20000

/-- What a proof tells of a key against a root: the error, whether there is an entry, its value. -/
def Prf.tells (p : Prf) (rt key : List UInt8) : Nat × Bool × List UInt8 :=
  if p.may && decide (p.root = rt) && leadsZ key p.st then (if p.no || !decide (p.k = key) then (0, false, []) else (0, true, p.v)) else (5, false, [])

theorem range_of_rowZ {w : World} {g : Nat} {cs : List Value} {t : TypeId} {fr : Nat × Nat} (h : w.heap[g]? = some (.cells cs.toArray t fr)) : w.rangeAt g 0 cs := fun j v hv => by
  rw [Nat.zero_add, cell_of_row _ _ _ _ _ _ h, List.getElem?_toArray]
  exact hv

theorem yields_val {P : Program} {ops : Array Oper} {S : World → Prop} {o : Oper} {a : Act} (ty : TypeId) (x : Operand) (ho : o.op = .load ty x) (q : Addr) (hx : a.eval x = .pointer (some q)) (v : Value)
    (hw : Region.wanted o (yielded ops a.tmps) = true) (hr : ∀ w, S w → (loadVar ty q).run P w = .ok v w) : YieldsIf P ops S o v a :=
  Or.inl ⟨hw, fun w hS => by
    unfold execOp
    simp only [ho, hx, Instr.loadAt, Instr.sureAddr, Sem.run_bind, Sem.run_pure, Result.andThen_ok, hr w hS]⟩

theorem run_load_slice {P : Program} (w : World) (ty e : TypeId) (hu : P.underlying ty = some (.slice e)) (ad : Addr) (v : Value) (hc : w.cell? ad = some v) : (loadVar ty ad).run P w = .ok v w := by
  simp [loadVar, isAgg, Sem.run_bind, run_underlying hu, hc]

section
variable {P : Program} {md : Region.Mode} {ops : Array Oper} {Q : Exit → Act → World → Prop} {S : World → Prop} {k0 : Nat} {fuel : Nat} {listed : Array Bool} {a : Act} {w : World} {i : Nat} {oi : Oper}

theorem takeE_skip (hr : Region.ready md ops listed = [i]) (hi : ops[i]? = some oi) (hw : Region.wanted oi (yielded ops a.tmps) = false) (hS : S w)
    (h : wpAnyE P md ops Q S k0 fuel (listed.setIfInBounds i true) (a.put oi.dst undef) w) : wpAnyE P md ops Q S k0 (fuel + 1) listed a w := by
  refine wpAnyE_all hr (by simp) fun k hk => ?_
  simp only [List.mem_cons, List.not_mem_nil, or_false] at hk
  subst hk
  unfold wpOp
  simp only [hi, hw, Bool.false_eq_true, if_false]
  exact ⟨.inl hS, h⟩

theorem takeE_callw {f : FuncId} {xs : Array Operand} {ts : Array TypeId} (args : Array Value) (R : Value → World → Prop) (hr : Region.ready md ops listed = [i]) (hi : ops[i]? = some oi) (hw : Region.wanted oi (yielded ops a.tmps) = true)
    (ki : oi.op = .call { callee := .value (.func f), args := xs, argTypes := ts }) (ea : xs.map a.eval = args) (ef : ∀ args w, (callFunc f args).run P w = .ok (.enter f args) w)
    (hc : Calls P f args w fun e w' => ∃ v, e = .returned v ∧ R v w')
    (h : ∀ v w', R v w' → S w' ∧ wpAnyE P md ops Q S k0 fuel (listed.setIfInBounds i true) (a.put oi.dst v) w') : wpAnyE P md ops Q S k0 (fuel + 1) listed a w := by
  refine wpAnyE_all hr (by simp) fun k hk => ?_
  simp only [List.mem_cons, List.not_mem_nil, or_false] at hk
  subst hk
  unfold wpOp
  simp only [hi, hw, if_true]
  refine .inl ?_
  unfold Oper.wp execOp
  simp only [ki, resolve, ea, Act.eval, Deferred.ofValue, invoke, Sem.run_bind, Sem.run_pure, Result.andThen_ok, Array.append_empty, Array.empty_append, ef]
  exact hc.mono fun e w' ⟨v, he, hR⟩ => by subst he; exact ⟨.inl (h v w' hR).1, (h v w' hR).2⟩
end

theorem run_neq_sum {a b : Array Value} {e : Bool} (W : World) (h : (Op.equalIn 10000 23 (.agg a) (.agg b)).run Tryd.prog W = .ok e W) : (binOp .neq 23 (.agg a) (.agg b)).run Tryd.prog W = .ok (.bool (!e)) W := by
  have h' : (Op.equal 23 (.agg a) (.agg b)).run Tryd.prog W = .ok e W := h
  simp [binOp, Sem.run_bind, h']

theorem Tryd.guardSum : Tryd.prog.eqGuardType Tryd.prog.depth 23 = false := by kernel_rfl

theorem run_guard_sum (x y : Operand) (a b : Array Value) (W : World) : (eqGuard .neq 23 x y (.agg a) (.agg b)).run Tryd.prog W = .ok () W := by
  have hpr : (program).run Tryd.prog W = .ok Tryd.prog W := rfl
  simp only [eqGuard, Sem.run_bind, Bool.not_true, Bool.false_eq_true, if_false, hpr, Result.andThen_ok, Tryd.guardSum, Bool.not_false, if_true, Sem.run_pure]

theorem yields_neq {ops : Array Oper} {S : World → Prop} {o : Oper} {a : Act} (x y : Operand) (ho : o.op = .binOp .neq 23 x y 23) (A B : Array Value) (e : Bool) (hx : a.eval x = .agg A) (hy : a.eval y = .agg B)
    (hw : Region.wanted o (yielded ops a.tmps) = true) (hr : ∀ W, (Op.equalIn 10000 23 (.agg A) (.agg B)).run Tryd.prog W = .ok e W) : YieldsIf Tryd.prog ops S o (.bool (!e)) a :=
  Or.inl ⟨hw, fun w hS => by
    unfold execOp
    simp only [ho, hx, hy, Sem.run_bind, run_guard_sum, run_neq_sum w (hr w), Sem.run_pure, Result.andThen_ok]⟩

set_option maxHeartbeats 4000000 in
theorem check_no (B : Nat) (p : Prf) (kv vv sv key : Value) (rt kb : List UInt8) (w : World) (hB : B ≤ w.heap.size) (hp : PAt B w p kv vv sv) (hk : Shows B w key kb) (hr : rt.length = 32) (hT : Tables w) (hm : p.may = false) :
    Calls Tryd.prog 14 #[.agg (sumV rt), key, .agg #[.bool p.no, kv, vv, sv]] w fun e w' => e = .returned (.tuple #[.slice none 0 0, .bool false, .int .i64 5]) ∧ Below w.heap.size w w' := by
  obtain ⟨ka, kc, rfl, hk1, hk2, _⟩ := id hp.hk
  obtain ⟨va, vc, rfl, hv1, hv2, _⟩ := id hp.hv
  obtain ⟨sa, sc, rfl, hs1, hs2⟩ := hp.hs.form
  obtain ⟨ya, yc, rfl, hy1, hy2, _⟩ := id hk
  obtain ⟨n0, n1, hbn, hsn⟩ := alloc2 w (.cells (sumV rt) 23) (.cells #[.bool p.no, .slice ka p.k.length kc, .slice va p.v.length vc, .slice sa p.st.length sc] 29)
  go_enter Tryd.func14, Tryd.ntmps14
  go_wp2_with fail
  generalize hw2 : (w.alloc _).alloc _ = w2 at *
  have hlt := hT.lt
  have FS : ∀ W, Below w2.heap.size w2 W → (fun W : World => W.heap[w.heap.size]? = some (.cells (sumV rt) 23 (0, 0)) ∧ W.heap[w.heap.size + 1]? = some (.cells #[.bool p.no, .slice ka p.k.length kc, .slice va p.v.length vc, .slice sa p.st.length sc] 29 (0, 0))) W := fun W h =>
    ⟨(h.block _ (by omega)).trans n0, (h.block _ (by omega)).trans n1⟩
  have FB : ∀ W, Below w2.heap.size w2 W → Below w.heap.size w W ∧ PAt B W p (.slice ka p.k.length kc) (.slice va p.v.length vc) (.slice sa p.st.length sc) ∧ B ≤ W.heap.size ∧ Tables W ∧ Shows B W (.slice ya kb.length yc) kb := fun W h => by
    have hb : Below w.heap.size w W := hbn.trans (h.mono (by omega))
    exact ⟨hb, hp.below (hb.mono hB), Nat.le_trans hB hb.size, hT.below hb (by omega), hk.below (hb.mono hB)⟩
  have b2 : Below w2.heap.size w2 w2.drew := below_drewN _ _ 1
  have hS2 := FS _ b2
  have HFS := hid FS
  have HFB := hid FB
  have HM := may_any B p _ _ _ w2.drew (FB _ b2).2.2.1 (FB _ b2).2.1
  rw [hm] at HM
  have HLP : Hid (∀ W : World, W.heap[w.heap.size]? = some (.cells (sumV rt) 23 (0, 0)) ∧ W.heap[w.heap.size + 1]? = some (.cells #[.bool p.no, .slice ka p.k.length kc, .slice va p.v.length vc, .slice sa p.st.length sc] 29 (0, 0)) → (loadVar 29 ⟨w.heap.size + 1, 0, none⟩).run Tryd.prog W = .ok (.agg #[.bool p.no, .slice ka p.k.length kc, .slice va p.v.length vc, .slice sa p.st.length sc]) W) := hid (fun W hW =>
    run_load_z W (w.heap.size + 1) 0 29 [.bool p.no, .slice ka p.k.length kc, .slice va p.v.length vc, .slice sa p.st.length sc] _ (fun j u hu => by rw [cell_of_row _ _ _ _ _ _ hW.2, Nat.zero_add]; simpa using hu) Tryd.underlying29 rfl Tryd.infoProof)
  have HLR : Hid (∀ W : World, W.heap[w.heap.size]? = some (.cells (sumV rt) 23 (0, 0)) ∧ W.heap[w.heap.size + 1]? = some (.cells #[.bool p.no, .slice ka p.k.length kc, .slice va p.v.length vc, .slice sa p.st.length sc] 29 (0, 0)) → (loadVar 23 ⟨w.heap.size, 0, none⟩).run Tryd.prog W = .ok (.agg (sumV rt)) W) := hid (fun W hW => load_sumZ hW.1 hr)
  have HLS : Hid (∀ W : World, W.heap[w.heap.size]? = some (.cells (sumV rt) 23 (0, 0)) ∧ W.heap[w.heap.size + 1]? = some (.cells #[.bool p.no, .slice ka p.k.length kc, .slice va p.v.length vc, .slice sa p.st.length sc] 29 (0, 0)) → (loadVar 27 ⟨w.heap.size + 1, 3, none⟩).run Tryd.prog W = .ok (.slice sa p.st.length sc) W) := hid (fun W hW =>
    run_load_slice W 27 _ Tryd.underlying27 ⟨w.heap.size + 1, 3, none⟩ _ (proof_cells hW.2).2.2.2)
  clear FS FB n0 n1 hp hk hw2
  refine last_region (fun W : World => W.heap[w.heap.size]? = some (.cells (sumV rt) 23 (0, 0)) ∧ W.heap[w.heap.size + 1]? = some (.cells #[.bool p.no, .slice ka p.k.length kc, .slice va p.v.length vc, .slice sa p.st.length sc] 29 (0, 0))) 15 (by kernel_rfl) ?_
  refine wpAnyE_take (i := 0) (v := (.agg #[.bool p.no, .slice ka p.k.length kc, .slice va p.v.length vc, .slice sa p.st.length sc])) rfl (by kernel_rfl) (by kernel_rfl) (by kernel_rfl) (by kernel_rfl) (by kernel_rfl) (fun _ _ _ h => h) (yields_val 29 (.tmp 5) rfl ⟨w.heap.size + 1, 0, none⟩ (by kernel_rfl) _ (by rfl) HLP.out) (by assumption) ?_
  simp only [Act.put, List.getElem_toArray, List.getElem_cons_zero, List.getElem_cons_succ, List.setIfInBounds_toArray, List.set_cons_zero, List.set_cons_succ]
  refine takeE_callw (i := 1) #[(.agg #[.bool p.no, .slice ka p.k.length kc, .slice va p.v.length vc, .slice sa p.st.length sc])] (fun u w' => u = .bool false ∧ Below w2.heap.size w2 w') (by kernel_rfl) rfl (by rfl) rfl (by kernel_rfl) (enters_of Tryd.func44 (by kernel_rfl) rfl) (HM.mono fun e w' ⟨h1, h2⟩ => ⟨_, h1, rfl, b2.trans h2⟩) ?_
  rintro _ w3 ⟨rfl, b3⟩
  have hS3 := HFS.out _ b3
  refine ⟨hS3, ?_⟩
  simp only [Act.put, List.getElem_toArray, List.getElem_cons_zero, List.getElem_cons_succ, List.setIfInBounds_toArray, List.set_cons_zero, List.set_cons_succ]
  refine wpAnyE_take (i := 2) (v := ?_) rfl (by kernel_rfl) (by kernel_rfl) (by kernel_rfl) (by kernel_rfl) (by kernel_rfl) (fun _ _ _ h => h) (Or.inl ⟨by rfl, ?_⟩) (by assumption) ?_; rotate_left; (focus (intro w hSw; (try dsimp only at hSw); (try obtain ⟨hSw1, hSw2, hSw3⟩ := hSw); go_simp <;> with_reducible rfl)); (try simp only [Act.put, List.getElem_toArray, List.getElem_cons_zero, List.getElem_cons_succ, List.setIfInBounds_toArray, List.set_cons_zero, List.set_cons_succ])
  refine wpAnyE_take (i := 3) (v := ?_) rfl (by kernel_rfl) (by kernel_rfl) (by kernel_rfl) (by kernel_rfl) (by kernel_rfl) (fun _ _ _ h => h) (Or.inl ⟨by rfl, ?_⟩) (by assumption) ?_; rotate_left; (focus (intro w hSw; (try dsimp only at hSw); (try obtain ⟨hSw1, hSw2, hSw3⟩ := hSw); go_simp <;> with_reducible rfl)); (try simp only [Act.put, List.getElem_toArray, List.getElem_cons_zero, List.getElem_cons_succ, List.setIfInBounds_toArray, List.set_cons_zero, List.set_cons_succ])
  refine wpAnyE_take (i := 4) (v := undef) rfl (by kernel_rfl) (by kernel_rfl) (by kernel_rfl) (by kernel_rfl) (by kernel_rfl) (fun _ _ _ h => h) (Or.inr ⟨by rfl, rfl⟩) (by assumption) ?_; (try simp only [Act.put, List.getElem_toArray, List.getElem_cons_zero, List.getElem_cons_succ, List.setIfInBounds_toArray, List.set_cons_zero, List.set_cons_succ])
  refine wpAnyE_take (i := 6) (v := undef) rfl (by kernel_rfl) (by kernel_rfl) (by kernel_rfl) (by kernel_rfl) (by kernel_rfl) (fun _ _ _ h => h) (Or.inr ⟨by rfl, rfl⟩) (by assumption) ?_; (try simp only [Act.put, List.getElem_toArray, List.getElem_cons_zero, List.getElem_cons_succ, List.setIfInBounds_toArray, List.set_cons_zero, List.set_cons_succ])
  refine takeE_skip (i := 5) (by kernel_rfl) rfl (by rfl) (by assumption) ?_
  simp only [Act.put, List.getElem_toArray, List.getElem_cons_zero, List.getElem_cons_succ, List.setIfInBounds_toArray, List.set_cons_zero, List.set_cons_succ]
  refine wpAnyE_take (i := 7) (v := undef) rfl (by kernel_rfl) (by kernel_rfl) (by kernel_rfl) (by kernel_rfl) (by kernel_rfl) (fun _ _ _ h => h) (Or.inr ⟨by rfl, rfl⟩) (by assumption) ?_; (try simp only [Act.put, List.getElem_toArray, List.getElem_cons_zero, List.getElem_cons_succ, List.setIfInBounds_toArray, List.set_cons_zero, List.set_cons_succ])
  refine wpAnyE_take (i := 8) (v := ?_) rfl (by kernel_rfl) (by kernel_rfl) (by kernel_rfl) (by kernel_rfl) (by kernel_rfl) (fun _ _ _ h => h) (Or.inl ⟨by rfl, ?_⟩) (by assumption) ?_; rotate_left; (focus (intro w hSw; (try dsimp only at hSw); (try obtain ⟨hSw1, hSw2, hSw3⟩ := hSw); go_simp <;> with_reducible rfl)); (try simp only [Act.put, List.getElem_toArray, List.getElem_cons_zero, List.getElem_cons_succ, List.setIfInBounds_toArray, List.set_cons_zero, List.set_cons_succ])
  refine wpAnyE_take (i := 9) (v := ?_) rfl (by kernel_rfl) (by kernel_rfl) (by kernel_rfl) (by kernel_rfl) (by kernel_rfl) (fun _ _ _ h => h) (Or.inl ⟨by rfl, ?_⟩) (by assumption) ?_; rotate_left; (focus (intro w hSw; (try dsimp only at hSw); (try obtain ⟨hSw1, hSw2, hSw3⟩ := hSw); go_simp <;> with_reducible rfl)); (try simp only [Act.put, List.getElem_toArray, List.getElem_cons_zero, List.getElem_cons_succ, List.setIfInBounds_toArray, List.set_cons_zero, List.set_cons_succ])
  refine wpAnyE_take (i := 10) (v := undef) rfl (by kernel_rfl) (by kernel_rfl) (by kernel_rfl) (by kernel_rfl) (by kernel_rfl) (fun _ _ _ h => h) (Or.inr ⟨by rfl, rfl⟩) (by assumption) ?_; (try simp only [Act.put, List.getElem_toArray, List.getElem_cons_zero, List.getElem_cons_succ, List.setIfInBounds_toArray, List.set_cons_zero, List.set_cons_succ])
  refine wpAnyE_take (i := 11) (v := undef) rfl (by kernel_rfl) (by kernel_rfl) (by kernel_rfl) (by kernel_rfl) (by kernel_rfl) (fun _ _ _ h => h) (Or.inr ⟨by rfl, rfl⟩) (by assumption) ?_; (try simp only [Act.put, List.getElem_toArray, List.getElem_cons_zero, List.getElem_cons_succ, List.setIfInBounds_toArray, List.set_cons_zero, List.set_cons_succ])
  refine wpAnyE_take (i := 12) (v := undef) rfl (by kernel_rfl) (by kernel_rfl) (by kernel_rfl) (by kernel_rfl) (by kernel_rfl) (fun _ _ _ h => h) (Or.inr ⟨by rfl, rfl⟩) (by assumption) ?_; (try simp only [Act.put, List.getElem_toArray, List.getElem_cons_zero, List.getElem_cons_succ, List.setIfInBounds_toArray, List.set_cons_zero, List.set_cons_succ])
  refine takeE_skip (i := 13) (by kernel_rfl) rfl (by rfl) (by assumption) ?_
  simp only [Act.put, List.getElem_toArray, List.getElem_cons_zero, List.getElem_cons_succ, List.setIfInBounds_toArray, List.set_cons_zero, List.set_cons_succ]
  refine wpAnyE_take (i := 14) (v := undef) rfl (by kernel_rfl) (by kernel_rfl) (by kernel_rfl) (by kernel_rfl) (by kernel_rfl) (fun _ _ _ h => h) (Or.inr ⟨by rfl, rfl⟩) (by assumption) ?_; (try simp only [Act.put, List.getElem_toArray, List.getElem_cons_zero, List.getElem_cons_succ, List.setIfInBounds_toArray, List.set_cons_zero, List.set_cons_succ])
  refine takeE_value (i := 15) (v := .bool true) (by kernel_rfl) rfl rfl (by rfl) (by assumption) ?_
  simp only [Act.put, List.getElem_toArray, List.getElem_cons_zero, List.getElem_cons_succ, List.setIfInBounds_toArray, List.set_cons_zero, List.set_cons_succ]
  refine wpAnyE_done (by kernel_rfl) ?_ _
  simp only [only_normal]
  go_wp2
  go_ret3
  exact ⟨rfl, (HFB.out _ b3).1⟩

set_option maxHeartbeats 4000000 in
theorem check_ne (B : Nat) (p : Prf) (kv vv sv key : Value) (rt kb : List UInt8) (w : World) (hB : B ≤ w.heap.size) (hp : PAt B w p kv vv sv) (hk : Shows B w key kb) (hr : rt.length = 32) (hT : Tables w) (hm : p.may = true) (hne : p.root ≠ rt) :
    Calls Tryd.prog 14 #[.agg (sumV rt), key, .agg #[.bool p.no, kv, vv, sv]] w fun e w' => e = .returned (.tuple #[.slice none 0 0, .bool false, .int .i64 5]) ∧ Below w.heap.size w w' := by
  obtain ⟨ka, kc, rfl, hk1, hk2, _⟩ := id hp.hk
  obtain ⟨va, vc, rfl, hv1, hv2, _⟩ := id hp.hv
  obtain ⟨sa, sc, rfl, hs1, hs2⟩ := hp.hs.form
  obtain ⟨ya, yc, rfl, hy1, hy2, _⟩ := id hk
  obtain ⟨n0, n1, hbn, hsn⟩ := alloc2 w (.cells (sumV rt) 23) (.cells #[.bool p.no, .slice ka p.k.length kc, .slice va p.v.length vc, .slice sa p.st.length sc] 29)
  go_enter Tryd.func14, Tryd.ntmps14
  go_wp2_with fail
  generalize hw2 : (w.alloc _).alloc _ = w2 at *
  have hlt := hT.lt
  have FS : ∀ W, Below w2.heap.size w2 W → (fun W : World => W.heap[w.heap.size]? = some (.cells (sumV rt) 23 (0, 0)) ∧ W.heap[w.heap.size + 1]? = some (.cells #[.bool p.no, .slice ka p.k.length kc, .slice va p.v.length vc, .slice sa p.st.length sc] 29 (0, 0))) W := fun W h =>
    ⟨(h.block _ (by omega)).trans n0, (h.block _ (by omega)).trans n1⟩
  have FB : ∀ W, Below w2.heap.size w2 W → Below w.heap.size w W ∧ PAt B W p (.slice ka p.k.length kc) (.slice va p.v.length vc) (.slice sa p.st.length sc) ∧ B ≤ W.heap.size ∧ Tables W ∧ Shows B W (.slice ya kb.length yc) kb := fun W h => by
    have hb : Below w.heap.size w W := hbn.trans (h.mono (by omega))
    exact ⟨hb, hp.below (hb.mono hB), Nat.le_trans hB hb.size, hT.below hb (by omega), hk.below (hb.mono hB)⟩
  have b2 : Below w2.heap.size w2 w2.drew := below_drewN _ _ 1
  have hS2 := FS _ b2
  have HFS := hid FS
  have HFB := hid FB
  have HM := may_any B p _ _ _ w2.drew (FB _ b2).2.2.1 (FB _ b2).2.1
  rw [hm] at HM
  have HLP : Hid (∀ W : World, W.heap[w.heap.size]? = some (.cells (sumV rt) 23 (0, 0)) ∧ W.heap[w.heap.size + 1]? = some (.cells #[.bool p.no, .slice ka p.k.length kc, .slice va p.v.length vc, .slice sa p.st.length sc] 29 (0, 0)) → (loadVar 29 ⟨w.heap.size + 1, 0, none⟩).run Tryd.prog W = .ok (.agg #[.bool p.no, .slice ka p.k.length kc, .slice va p.v.length vc, .slice sa p.st.length sc]) W) := hid (fun W hW =>
    run_load_z W (w.heap.size + 1) 0 29 [.bool p.no, .slice ka p.k.length kc, .slice va p.v.length vc, .slice sa p.st.length sc] _ (fun j u hu => by rw [cell_of_row _ _ _ _ _ _ hW.2, Nat.zero_add]; simpa using hu) Tryd.underlying29 rfl Tryd.infoProof)
  have HLR : Hid (∀ W : World, W.heap[w.heap.size]? = some (.cells (sumV rt) 23 (0, 0)) ∧ W.heap[w.heap.size + 1]? = some (.cells #[.bool p.no, .slice ka p.k.length kc, .slice va p.v.length vc, .slice sa p.st.length sc] 29 (0, 0)) → (loadVar 23 ⟨w.heap.size, 0, none⟩).run Tryd.prog W = .ok (.agg (sumV rt)) W) := hid (fun W hW => load_sumZ hW.1 hr)
  have HLS : Hid (∀ W : World, W.heap[w.heap.size]? = some (.cells (sumV rt) 23 (0, 0)) ∧ W.heap[w.heap.size + 1]? = some (.cells #[.bool p.no, .slice ka p.k.length kc, .slice va p.v.length vc, .slice sa p.st.length sc] 29 (0, 0)) → (loadVar 27 ⟨w.heap.size + 1, 3, none⟩).run Tryd.prog W = .ok (.slice sa p.st.length sc) W) := hid (fun W hW =>
    run_load_slice W 27 _ Tryd.underlying27 ⟨w.heap.size + 1, 3, none⟩ _ (proof_cells hW.2).2.2.2)
  have hq : ∀ W, (Op.equalIn 10000 23 (.agg (sumV p.root)) (.agg (sumV rt))).run Tryd.prog W = .ok false W := fun W => by
    have := eq_sum p.root rt (sha_length _) hr W
    rw [decide_eq_false hne] at this
    exact this
  obtain ⟨A, hAe⟩ : ∃ A, sumV p.root = A := ⟨_, rfl⟩
  rw [hAe] at hq
  generalize sumV rt = R at *
  clear FS FB n0 n1 hp hk hw2
  refine last_region (fun W : World => W.heap[w.heap.size]? = some (.cells R 23 (0, 0)) ∧ W.heap[w.heap.size + 1]? = some (.cells #[.bool p.no, .slice ka p.k.length kc, .slice va p.v.length vc, .slice sa p.st.length sc] 29 (0, 0))) 15 (by kernel_rfl) ?_
  refine wpAnyE_take (i := 0) (v := (.agg #[.bool p.no, .slice ka p.k.length kc, .slice va p.v.length vc, .slice sa p.st.length sc])) rfl (by kernel_rfl) (by kernel_rfl) (by kernel_rfl) (by kernel_rfl) (by kernel_rfl) (fun _ _ _ h => h) (yields_val 29 (.tmp 5) rfl ⟨w.heap.size + 1, 0, none⟩ (by kernel_rfl) _ (by rfl) HLP.out) (by assumption) ?_
  simp only [Act.put, List.getElem_toArray, List.getElem_cons_zero, List.getElem_cons_succ, List.setIfInBounds_toArray, List.set_cons_zero, List.set_cons_succ]
  refine takeE_callw (i := 1) #[(.agg #[.bool p.no, .slice ka p.k.length kc, .slice va p.v.length vc, .slice sa p.st.length sc])] (fun u w' => u = .bool true ∧ Below w2.heap.size w2 w') (by kernel_rfl) rfl (by rfl) rfl (by kernel_rfl) (enters_of Tryd.func44 (by kernel_rfl) rfl) (HM.mono fun e w' ⟨h1, h2⟩ => ⟨_, h1, rfl, b2.trans h2⟩) ?_
  rintro _ w3 ⟨rfl, b3⟩
  have hS3 := HFS.out _ b3
  refine ⟨hS3, ?_⟩
  simp only [Act.put, List.getElem_toArray, List.getElem_cons_zero, List.getElem_cons_succ, List.setIfInBounds_toArray, List.set_cons_zero, List.set_cons_succ]
  refine wpAnyE_take (i := 2) (v := ?_) rfl (by kernel_rfl) (by kernel_rfl) (by kernel_rfl) (by kernel_rfl) (by kernel_rfl) (fun _ _ _ h => h) (Or.inl ⟨by rfl, ?_⟩) (by assumption) ?_; rotate_left; (focus (intro w hSw; (try dsimp only at hSw); (try obtain ⟨hSw1, hSw2, hSw3⟩ := hSw); go_simp <;> with_reducible rfl)); (try simp only [Act.put, List.getElem_toArray, List.getElem_cons_zero, List.getElem_cons_succ, List.setIfInBounds_toArray, List.set_cons_zero, List.set_cons_succ])
  refine wpAnyE_take (i := 3) (v := ?_) rfl (by kernel_rfl) (by kernel_rfl) (by kernel_rfl) (by kernel_rfl) (by kernel_rfl) (fun _ _ _ h => h) (Or.inl ⟨by rfl, ?_⟩) (by assumption) ?_; rotate_left; (focus (intro w hSw; (try dsimp only at hSw); (try obtain ⟨hSw1, hSw2, hSw3⟩ := hSw); go_simp <;> with_reducible rfl)); (try simp only [Act.put, List.getElem_toArray, List.getElem_cons_zero, List.getElem_cons_succ, List.setIfInBounds_toArray, List.set_cons_zero, List.set_cons_succ])
  refine wpAnyE_take (i := 4) (v := (.agg #[.bool p.no, .slice ka p.k.length kc, .slice va p.v.length vc, .slice sa p.st.length sc])) rfl (by kernel_rfl) (by kernel_rfl) (by kernel_rfl) (by kernel_rfl) (by kernel_rfl) (fun _ _ _ h => h) (yields_val 29 (.tmp 5) rfl ⟨w.heap.size + 1, 0, none⟩ (by kernel_rfl) _ (by rfl) HLP.out) (by assumption) ?_
  simp only [Act.put, List.getElem_toArray, List.getElem_cons_zero, List.getElem_cons_succ, List.setIfInBounds_toArray, List.set_cons_zero, List.set_cons_succ]
  refine wpAnyE_take (i := 6) (v := .agg R) rfl (by kernel_rfl) (by kernel_rfl) (by kernel_rfl) (by kernel_rfl) (by kernel_rfl) (fun _ _ _ h => h) (yields_val 23 (.tmp 3) rfl ⟨w.heap.size, 0, none⟩ (by kernel_rfl) _ (by rfl) HLR.out) (by assumption) ?_
  simp only [Act.put, List.getElem_toArray, List.getElem_cons_zero, List.getElem_cons_succ, List.setIfInBounds_toArray, List.set_cons_zero, List.set_cons_succ]
  have HR := prootOf_any B p _ _ _ w3 (HFB.out _ b3).2.2.1 (HFB.out _ b3).2.1 (HFB.out _ b3).2.2.2.1 hm
  rw [hAe] at HR
  refine takeE_callw (i := 5) #[(.agg #[.bool p.no, .slice ka p.k.length kc, .slice va p.v.length vc, .slice sa p.st.length sc])] (fun u w' => u = .agg A ∧ Below w2.heap.size w2 w') (by kernel_rfl) rfl (by rfl) rfl (by kernel_rfl) (enters_of Tryd.func48 (by kernel_rfl) rfl) (HR.mono fun e w' ⟨h1, h2⟩ => ⟨_, h1, rfl, b3.trans (h2.mono b3.size)⟩) ?_
  rintro _ w4 ⟨rfl, b4⟩
  have hS4 := HFS.out _ b4
  refine ⟨hS4, ?_⟩
  simp only [Act.put, List.getElem_toArray, List.getElem_cons_zero, List.getElem_cons_succ, List.setIfInBounds_toArray, List.set_cons_zero, List.set_cons_succ]
  refine wpAnyE_take (i := 7) (v := .bool (!false)) rfl (by kernel_rfl) (by kernel_rfl) (by kernel_rfl) (by kernel_rfl) (by kernel_rfl) (fun _ _ _ h => h) (yields_neq (.tmp 14) (.tmp 15) rfl A R false (by kernel_rfl) (by kernel_rfl) (by rfl) hq) (by assumption) ?_
  simp only [Act.put, List.getElem_toArray, List.getElem_cons_zero, List.getElem_cons_succ, List.setIfInBounds_toArray, List.set_cons_zero, List.set_cons_succ]
  refine wpAnyE_take (i := 8) (v := ?_) rfl (by kernel_rfl) (by kernel_rfl) (by kernel_rfl) (by kernel_rfl) (by kernel_rfl) (fun _ _ _ h => h) (Or.inl ⟨by rfl, ?_⟩) (by assumption) ?_; rotate_left; (focus (intro w hSw; (try dsimp only at hSw); (try obtain ⟨hSw1, hSw2, hSw3⟩ := hSw); go_simp <;> with_reducible rfl)); (try simp only [Act.put, List.getElem_toArray, List.getElem_cons_zero, List.getElem_cons_succ, List.setIfInBounds_toArray, List.set_cons_zero, List.set_cons_succ])
  refine wpAnyE_take (i := 9) (v := ?_) rfl (by kernel_rfl) (by kernel_rfl) (by kernel_rfl) (by kernel_rfl) (by kernel_rfl) (fun _ _ _ h => h) (Or.inl ⟨by rfl, ?_⟩) (by assumption) ?_; rotate_left; (focus (intro w hSw; (try dsimp only at hSw); (try obtain ⟨hSw1, hSw2, hSw3⟩ := hSw); go_simp <;> with_reducible rfl)); (try simp only [Act.put, List.getElem_toArray, List.getElem_cons_zero, List.getElem_cons_succ, List.setIfInBounds_toArray, List.set_cons_zero, List.set_cons_succ])
  refine wpAnyE_take (i := 10) (v := undef) rfl (by kernel_rfl) (by kernel_rfl) (by kernel_rfl) (by kernel_rfl) (by kernel_rfl) (fun _ _ _ h => h) (Or.inr ⟨by rfl, rfl⟩) (by assumption) ?_; (try simp only [Act.put, List.getElem_toArray, List.getElem_cons_zero, List.getElem_cons_succ, List.setIfInBounds_toArray, List.set_cons_zero, List.set_cons_succ])
  refine wpAnyE_take (i := 11) (v := undef) rfl (by kernel_rfl) (by kernel_rfl) (by kernel_rfl) (by kernel_rfl) (by kernel_rfl) (fun _ _ _ h => h) (Or.inr ⟨by rfl, rfl⟩) (by assumption) ?_; (try simp only [Act.put, List.getElem_toArray, List.getElem_cons_zero, List.getElem_cons_succ, List.setIfInBounds_toArray, List.set_cons_zero, List.set_cons_succ])
  refine wpAnyE_take (i := 12) (v := undef) rfl (by kernel_rfl) (by kernel_rfl) (by kernel_rfl) (by kernel_rfl) (by kernel_rfl) (fun _ _ _ h => h) (Or.inr ⟨by rfl, rfl⟩) (by assumption) ?_; (try simp only [Act.put, List.getElem_toArray, List.getElem_cons_zero, List.getElem_cons_succ, List.setIfInBounds_toArray, List.set_cons_zero, List.set_cons_succ])
  refine takeE_skip (i := 13) (by kernel_rfl) rfl (by rfl) (by assumption) ?_
  simp only [Act.put, List.getElem_toArray, List.getElem_cons_zero, List.getElem_cons_succ, List.setIfInBounds_toArray, List.set_cons_zero, List.set_cons_succ]
  refine wpAnyE_take (i := 14) (v := undef) rfl (by kernel_rfl) (by kernel_rfl) (by kernel_rfl) (by kernel_rfl) (by kernel_rfl) (fun _ _ _ h => h) (Or.inr ⟨by rfl, rfl⟩) (by assumption) ?_; (try simp only [Act.put, List.getElem_toArray, List.getElem_cons_zero, List.getElem_cons_succ, List.setIfInBounds_toArray, List.set_cons_zero, List.set_cons_succ])
  refine takeE_value (i := 15) (v := .bool true) (by kernel_rfl) rfl rfl (by rfl) (by assumption) ?_
  simp only [Act.put, List.getElem_toArray, List.getElem_cons_zero, List.getElem_cons_succ, List.setIfInBounds_toArray, List.set_cons_zero, List.set_cons_succ]
  refine wpAnyE_done (by kernel_rfl) ?_ _
  simp only [only_normal]
  go_wp2
  go_ret3
  exact ⟨rfl, (HFB.out _ b4).1⟩

set_option maxHeartbeats 4000000 in
theorem check_off (B : Nat) (p : Prf) (kv vv sv key : Value) (rt kb : List UInt8) (w : World) (hB : B ≤ w.heap.size) (hp : PAt B w p kv vv sv) (hk : Shows B w key kb) (hr : rt.length = 32) (hT : Tables w) (hm : p.may = true) (hne : p.root = rt) (hlead : leadsZ kb p.st = false) :
    Calls Tryd.prog 14 #[.agg (sumV rt), key, .agg #[.bool p.no, kv, vv, sv]] w fun e w' => e = .returned (.tuple #[.slice none 0 0, .bool false, .int .i64 5]) ∧ Below w.heap.size w w' := by
  obtain ⟨ka, kc, rfl, hk1, hk2, _⟩ := id hp.hk
  obtain ⟨va, vc, rfl, hv1, hv2, _⟩ := id hp.hv
  obtain ⟨sa, sc, rfl, hs1, hs2⟩ := hp.hs.form
  obtain ⟨ya, yc, rfl, hy1, hy2, _⟩ := id hk
  obtain ⟨n0, n1, hbn, hsn⟩ := alloc2 w (.cells (sumV rt) 23) (.cells #[.bool p.no, .slice ka p.k.length kc, .slice va p.v.length vc, .slice sa p.st.length sc] 29)
  go_enter Tryd.func14, Tryd.ntmps14
  go_wp2_with fail
  generalize hw2 : (w.alloc _).alloc _ = w2 at *
  have hlt := hT.lt
  have FS : ∀ W, Below w2.heap.size w2 W → (fun W : World => W.heap[w.heap.size]? = some (.cells (sumV rt) 23 (0, 0)) ∧ W.heap[w.heap.size + 1]? = some (.cells #[.bool p.no, .slice ka p.k.length kc, .slice va p.v.length vc, .slice sa p.st.length sc] 29 (0, 0))) W := fun W h =>
    ⟨(h.block _ (by omega)).trans n0, (h.block _ (by omega)).trans n1⟩
  have FB : ∀ W, Below w2.heap.size w2 W → Below w.heap.size w W ∧ PAt B W p (.slice ka p.k.length kc) (.slice va p.v.length vc) (.slice sa p.st.length sc) ∧ B ≤ W.heap.size ∧ Tables W ∧ Shows B W (.slice ya kb.length yc) kb := fun W h => by
    have hb : Below w.heap.size w W := hbn.trans (h.mono (by omega))
    exact ⟨hb, hp.below (hb.mono hB), Nat.le_trans hB hb.size, hT.below hb (by omega), hk.below (hb.mono hB)⟩
  have b2 : Below w2.heap.size w2 w2.drew := below_drewN _ _ 1
  have hS2 := FS _ b2
  have HFS := hid FS
  have HFB := hid FB
  have HM := may_any B p _ _ _ w2.drew (FB _ b2).2.2.1 (FB _ b2).2.1
  rw [hm] at HM
  have HLP : Hid (∀ W : World, W.heap[w.heap.size]? = some (.cells (sumV rt) 23 (0, 0)) ∧ W.heap[w.heap.size + 1]? = some (.cells #[.bool p.no, .slice ka p.k.length kc, .slice va p.v.length vc, .slice sa p.st.length sc] 29 (0, 0)) → (loadVar 29 ⟨w.heap.size + 1, 0, none⟩).run Tryd.prog W = .ok (.agg #[.bool p.no, .slice ka p.k.length kc, .slice va p.v.length vc, .slice sa p.st.length sc]) W) := hid (fun W hW =>
    run_load_z W (w.heap.size + 1) 0 29 [.bool p.no, .slice ka p.k.length kc, .slice va p.v.length vc, .slice sa p.st.length sc] _ (fun j u hu => by rw [cell_of_row _ _ _ _ _ _ hW.2, Nat.zero_add]; simpa using hu) Tryd.underlying29 rfl Tryd.infoProof)
  have HLR : Hid (∀ W : World, W.heap[w.heap.size]? = some (.cells (sumV rt) 23 (0, 0)) ∧ W.heap[w.heap.size + 1]? = some (.cells #[.bool p.no, .slice ka p.k.length kc, .slice va p.v.length vc, .slice sa p.st.length sc] 29 (0, 0)) → (loadVar 23 ⟨w.heap.size, 0, none⟩).run Tryd.prog W = .ok (.agg (sumV rt)) W) := hid (fun W hW => load_sumZ hW.1 hr)
  have HLS : Hid (∀ W : World, W.heap[w.heap.size]? = some (.cells (sumV rt) 23 (0, 0)) ∧ W.heap[w.heap.size + 1]? = some (.cells #[.bool p.no, .slice ka p.k.length kc, .slice va p.v.length vc, .slice sa p.st.length sc] 29 (0, 0)) → (loadVar 27 ⟨w.heap.size + 1, 3, none⟩).run Tryd.prog W = .ok (.slice sa p.st.length sc) W) := hid (fun W hW =>
    run_load_slice W 27 _ Tryd.underlying27 ⟨w.heap.size + 1, 3, none⟩ _ (proof_cells hW.2).2.2.2)
  have hq : ∀ W, (Op.equalIn 10000 23 (.agg (sumV p.root)) (.agg (sumV rt))).run Tryd.prog W = .ok true W := fun W => by
    have := eq_sum p.root rt (sha_length _) hr W
    rw [decide_eq_true hne] at this
    exact this
  obtain ⟨A, hAe⟩ : ∃ A, sumV p.root = A := ⟨_, rfl⟩
  rw [hAe] at hq
  generalize sumV rt = R at *
  clear FS FB n0 n1 hp hk hw2
  refine last_region (fun W : World => W.heap[w.heap.size]? = some (.cells R 23 (0, 0)) ∧ W.heap[w.heap.size + 1]? = some (.cells #[.bool p.no, .slice ka p.k.length kc, .slice va p.v.length vc, .slice sa p.st.length sc] 29 (0, 0))) 15 (by kernel_rfl) ?_
  refine wpAnyE_take (i := 0) (v := (.agg #[.bool p.no, .slice ka p.k.length kc, .slice va p.v.length vc, .slice sa p.st.length sc])) rfl (by kernel_rfl) (by kernel_rfl) (by kernel_rfl) (by kernel_rfl) (by kernel_rfl) (fun _ _ _ h => h) (yields_val 29 (.tmp 5) rfl ⟨w.heap.size + 1, 0, none⟩ (by kernel_rfl) _ (by rfl) HLP.out) (by assumption) ?_
  simp only [Act.put, List.getElem_toArray, List.getElem_cons_zero, List.getElem_cons_succ, List.setIfInBounds_toArray, List.set_cons_zero, List.set_cons_succ]
  refine takeE_callw (i := 1) #[(.agg #[.bool p.no, .slice ka p.k.length kc, .slice va p.v.length vc, .slice sa p.st.length sc])] (fun u w' => u = .bool true ∧ Below w2.heap.size w2 w') (by kernel_rfl) rfl (by rfl) rfl (by kernel_rfl) (enters_of Tryd.func44 (by kernel_rfl) rfl) (HM.mono fun e w' ⟨h1, h2⟩ => ⟨_, h1, rfl, b2.trans h2⟩) ?_
  rintro _ w3 ⟨rfl, b3⟩
  have hS3 := HFS.out _ b3
  refine ⟨hS3, ?_⟩
  simp only [Act.put, List.getElem_toArray, List.getElem_cons_zero, List.getElem_cons_succ, List.setIfInBounds_toArray, List.set_cons_zero, List.set_cons_succ]
  refine wpAnyE_take (i := 2) (v := ?_) rfl (by kernel_rfl) (by kernel_rfl) (by kernel_rfl) (by kernel_rfl) (by kernel_rfl) (fun _ _ _ h => h) (Or.inl ⟨by rfl, ?_⟩) (by assumption) ?_; rotate_left; (focus (intro w hSw; (try dsimp only at hSw); (try obtain ⟨hSw1, hSw2, hSw3⟩ := hSw); go_simp <;> with_reducible rfl)); (try simp only [Act.put, List.getElem_toArray, List.getElem_cons_zero, List.getElem_cons_succ, List.setIfInBounds_toArray, List.set_cons_zero, List.set_cons_succ])
  refine wpAnyE_take (i := 3) (v := ?_) rfl (by kernel_rfl) (by kernel_rfl) (by kernel_rfl) (by kernel_rfl) (by kernel_rfl) (fun _ _ _ h => h) (Or.inl ⟨by rfl, ?_⟩) (by assumption) ?_; rotate_left; (focus (intro w hSw; (try dsimp only at hSw); (try obtain ⟨hSw1, hSw2, hSw3⟩ := hSw); go_simp <;> with_reducible rfl)); (try simp only [Act.put, List.getElem_toArray, List.getElem_cons_zero, List.getElem_cons_succ, List.setIfInBounds_toArray, List.set_cons_zero, List.set_cons_succ])
  refine wpAnyE_take (i := 4) (v := (.agg #[.bool p.no, .slice ka p.k.length kc, .slice va p.v.length vc, .slice sa p.st.length sc])) rfl (by kernel_rfl) (by kernel_rfl) (by kernel_rfl) (by kernel_rfl) (by kernel_rfl) (fun _ _ _ h => h) (yields_val 29 (.tmp 5) rfl ⟨w.heap.size + 1, 0, none⟩ (by kernel_rfl) _ (by rfl) HLP.out) (by assumption) ?_
  simp only [Act.put, List.getElem_toArray, List.getElem_cons_zero, List.getElem_cons_succ, List.setIfInBounds_toArray, List.set_cons_zero, List.set_cons_succ]
  refine wpAnyE_take (i := 6) (v := .agg R) rfl (by kernel_rfl) (by kernel_rfl) (by kernel_rfl) (by kernel_rfl) (by kernel_rfl) (fun _ _ _ h => h) (yields_val 23 (.tmp 3) rfl ⟨w.heap.size, 0, none⟩ (by kernel_rfl) _ (by rfl) HLR.out) (by assumption) ?_
  simp only [Act.put, List.getElem_toArray, List.getElem_cons_zero, List.getElem_cons_succ, List.setIfInBounds_toArray, List.set_cons_zero, List.set_cons_succ]
  have HR := prootOf_any B p _ _ _ w3 (HFB.out _ b3).2.2.1 (HFB.out _ b3).2.1 (HFB.out _ b3).2.2.2.1 hm
  rw [hAe] at HR
  refine takeE_callw (i := 5) #[(.agg #[.bool p.no, .slice ka p.k.length kc, .slice va p.v.length vc, .slice sa p.st.length sc])] (fun u w' => u = .agg A ∧ Below w2.heap.size w2 w') (by kernel_rfl) rfl (by rfl) rfl (by kernel_rfl) (enters_of Tryd.func48 (by kernel_rfl) rfl) (HR.mono fun e w' ⟨h1, h2⟩ => ⟨_, h1, rfl, b3.trans (h2.mono b3.size)⟩) ?_
  rintro _ w4 ⟨rfl, b4⟩
  have hS4 := HFS.out _ b4
  refine ⟨hS4, ?_⟩
  simp only [Act.put, List.getElem_toArray, List.getElem_cons_zero, List.getElem_cons_succ, List.setIfInBounds_toArray, List.set_cons_zero, List.set_cons_succ]
  refine wpAnyE_take (i := 7) (v := .bool (!true)) rfl (by kernel_rfl) (by kernel_rfl) (by kernel_rfl) (by kernel_rfl) (by kernel_rfl) (fun _ _ _ h => h) (yields_neq (.tmp 14) (.tmp 15) rfl A R true (by kernel_rfl) (by kernel_rfl) (by rfl) hq) (by assumption) ?_
  simp only [Act.put, List.getElem_toArray, List.getElem_cons_zero, List.getElem_cons_succ, List.setIfInBounds_toArray, List.set_cons_zero, List.set_cons_succ]
  refine wpAnyE_take (i := 8) (v := ?_) rfl (by kernel_rfl) (by kernel_rfl) (by kernel_rfl) (by kernel_rfl) (by kernel_rfl) (fun _ _ _ h => h) (Or.inl ⟨by rfl, ?_⟩) (by assumption) ?_; rotate_left; (focus (intro w hSw; (try dsimp only at hSw); (try obtain ⟨hSw1, hSw2, hSw3⟩ := hSw); go_simp <;> with_reducible rfl)); (try simp only [Act.put, List.getElem_toArray, List.getElem_cons_zero, List.getElem_cons_succ, List.setIfInBounds_toArray, List.set_cons_zero, List.set_cons_succ])
  refine wpAnyE_take (i := 9) (v := ?_) rfl (by kernel_rfl) (by kernel_rfl) (by kernel_rfl) (by kernel_rfl) (by kernel_rfl) (fun _ _ _ h => h) (Or.inl ⟨by rfl, ?_⟩) (by assumption) ?_; rotate_left; (focus (intro w hSw; (try dsimp only at hSw); (try obtain ⟨hSw1, hSw2, hSw3⟩ := hSw); go_simp <;> with_reducible rfl)); (try simp only [Act.put, List.getElem_toArray, List.getElem_cons_zero, List.getElem_cons_succ, List.setIfInBounds_toArray, List.set_cons_zero, List.set_cons_succ])
  refine wpAnyE_take (i := 10) (v := ?_) rfl (by kernel_rfl) (by kernel_rfl) (by kernel_rfl) (by kernel_rfl) (by kernel_rfl) (fun _ _ _ h => h) (Or.inl ⟨by rfl, ?_⟩) (by assumption) ?_; rotate_left; (focus (intro w hSw; (try dsimp only at hSw); (try obtain ⟨hSw1, hSw2, hSw3⟩ := hSw); go_simp <;> with_reducible rfl)); (try simp only [Act.put, List.getElem_toArray, List.getElem_cons_zero, List.getElem_cons_succ, List.setIfInBounds_toArray, List.set_cons_zero, List.set_cons_succ])
  refine wpAnyE_take (i := 11) (v := .slice sa p.st.length sc) rfl (by kernel_rfl) (by kernel_rfl) (by kernel_rfl) (by kernel_rfl) (by kernel_rfl) (fun _ _ _ h => h) (yields_val 27 (.tmp 19) rfl ⟨w.heap.size + 1, 3, none⟩ (by kernel_rfl) _ (by rfl) HLS.out) (by assumption) ?_
  simp only [Act.put, List.getElem_toArray, List.getElem_cons_zero, List.getElem_cons_succ, List.setIfInBounds_toArray, List.set_cons_zero, List.set_cons_succ]
  refine wpAnyE_take (i := 12) (v := ?_) rfl (by kernel_rfl) (by kernel_rfl) (by kernel_rfl) (by kernel_rfl) (by kernel_rfl) (fun _ _ _ h => h) (Or.inl ⟨by rfl, ?_⟩) (by assumption) ?_; rotate_left; (focus (intro w hSw; (try dsimp only at hSw); (try obtain ⟨hSw1, hSw2, hSw3⟩ := hSw); go_simp <;> with_reducible rfl)); (try simp only [Act.put, List.getElem_toArray, List.getElem_cons_zero, List.getElem_cons_succ, List.setIfInBounds_toArray, List.set_cons_zero, List.set_cons_succ])
  have HL := lead_any B B _ _ p.st kb w4 (HFB.out _ b4).2.2.1 (HFB.out _ b4).2.2.1 (HFB.out _ b4).2.1.hs (HFB.out _ b4).2.2.2.2
  rw [hlead] at HL
  refine takeE_callw (i := 13) #[.slice sa p.st.length sc, .slice ya kb.length yc] (fun u w' => u = .bool false ∧ Below w2.heap.size w2 w') (by kernel_rfl) rfl (by rfl) rfl (by kernel_rfl) (enters_of Tryd.func49 (by kernel_rfl) rfl) (HL.mono fun e w' ⟨h1, h2⟩ => ⟨_, h1, rfl, b4.trans (h2.mono b4.size)⟩) ?_
  rintro _ w5 ⟨rfl, b5⟩
  have hS5 := HFS.out _ b5
  refine ⟨hS5, ?_⟩
  simp only [Act.put, List.getElem_toArray, List.getElem_cons_zero, List.getElem_cons_succ, List.setIfInBounds_toArray, List.set_cons_zero, List.set_cons_succ]
  refine wpAnyE_take (i := 14) (v := ?_) rfl (by kernel_rfl) (by kernel_rfl) (by kernel_rfl) (by kernel_rfl) (by kernel_rfl) (fun _ _ _ h => h) (Or.inl ⟨by rfl, ?_⟩) (by assumption) ?_; rotate_left; (focus (intro w hSw; (try dsimp only at hSw); (try obtain ⟨hSw1, hSw2, hSw3⟩ := hSw); go_simp <;> with_reducible rfl)); (try simp only [Act.put, List.getElem_toArray, List.getElem_cons_zero, List.getElem_cons_succ, List.setIfInBounds_toArray, List.set_cons_zero, List.set_cons_succ])
  refine takeE_value (i := 15) (v := .bool true) (by kernel_rfl) rfl rfl (by rfl) (by assumption) ?_
  simp only [Act.put, List.getElem_toArray, List.getElem_cons_zero, List.getElem_cons_succ, List.setIfInBounds_toArray, List.set_cons_zero, List.set_cons_succ]
  refine wpAnyE_done (by kernel_rfl) ?_ _
  simp only [only_normal]
  go_wp2
  go_ret3
  exact ⟨rfl, (HFB.out _ b5).1⟩

set_option maxHeartbeats 4000000 in
theorem check_on (B : Nat) (p : Prf) (kv vv sv key : Value) (rt kb : List UInt8) (w : World) (hB : B ≤ w.heap.size) (hp : PAt B w p kv vv sv) (hk : Shows B w key kb) (hr : rt.length = 32) (hT : Tables w) (hm : p.may = true) (hne : p.root = rt) (hlead : leadsZ kb p.st = true) (b : Bool) (val : List UInt8) (hb : (p.no || !decide (p.k = kb)) = b) (hval : (if b then [] else p.v) = val) :
    Calls Tryd.prog 14 #[.agg (sumV rt), key, .agg #[.bool p.no, kv, vv, sv]] w fun e w' => ∃ v', e = .returned (.tuple #[v', .bool (!b), .int .i64 0]) ∧ Copy w.heap.size w' v' val ∧ Below w.heap.size w w' := by
  obtain ⟨ka, kc, rfl, hk1, hk2, _⟩ := id hp.hk
  obtain ⟨va, vc, rfl, hv1, hv2, _⟩ := id hp.hv
  obtain ⟨sa, sc, rfl, hs1, hs2⟩ := hp.hs.form
  obtain ⟨ya, yc, rfl, hy1, hy2, _⟩ := id hk
  obtain ⟨n0, n1, hbn, hsn⟩ := alloc2 w (.cells (sumV rt) 23) (.cells #[.bool p.no, .slice ka p.k.length kc, .slice va p.v.length vc, .slice sa p.st.length sc] 29)
  go_enter Tryd.func14, Tryd.ntmps14
  go_wp2_with fail
  generalize hw2 : (w.alloc _).alloc _ = w2 at *
  have hlt := hT.lt
  have FS : ∀ W, Below w2.heap.size w2 W → (fun W : World => W.heap[w.heap.size]? = some (.cells (sumV rt) 23 (0, 0)) ∧ W.heap[w.heap.size + 1]? = some (.cells #[.bool p.no, .slice ka p.k.length kc, .slice va p.v.length vc, .slice sa p.st.length sc] 29 (0, 0))) W := fun W h =>
    ⟨(h.block _ (by omega)).trans n0, (h.block _ (by omega)).trans n1⟩
  have FB : ∀ W, Below w2.heap.size w2 W → Below w.heap.size w W ∧ PAt B W p (.slice ka p.k.length kc) (.slice va p.v.length vc) (.slice sa p.st.length sc) ∧ B ≤ W.heap.size ∧ Tables W ∧ Shows B W (.slice ya kb.length yc) kb := fun W h => by
    have hb : Below w.heap.size w W := hbn.trans (h.mono (by omega))
    exact ⟨hb, hp.below (hb.mono hB), Nat.le_trans hB hb.size, hT.below hb (by omega), hk.below (hb.mono hB)⟩
  have b2 : Below w2.heap.size w2 w2.drew := below_drewN _ _ 1
  have hS2 := FS _ b2
  have HFS := hid FS
  have HFB := hid FB
  have HM := may_any B p _ _ _ w2.drew (FB _ b2).2.2.1 (FB _ b2).2.1
  rw [hm] at HM
  have HLP : Hid (∀ W : World, W.heap[w.heap.size]? = some (.cells (sumV rt) 23 (0, 0)) ∧ W.heap[w.heap.size + 1]? = some (.cells #[.bool p.no, .slice ka p.k.length kc, .slice va p.v.length vc, .slice sa p.st.length sc] 29 (0, 0)) → (loadVar 29 ⟨w.heap.size + 1, 0, none⟩).run Tryd.prog W = .ok (.agg #[.bool p.no, .slice ka p.k.length kc, .slice va p.v.length vc, .slice sa p.st.length sc]) W) := hid (fun W hW =>
    run_load_z W (w.heap.size + 1) 0 29 [.bool p.no, .slice ka p.k.length kc, .slice va p.v.length vc, .slice sa p.st.length sc] _ (fun j u hu => by rw [cell_of_row _ _ _ _ _ _ hW.2, Nat.zero_add]; simpa using hu) Tryd.underlying29 rfl Tryd.infoProof)
  have HLR : Hid (∀ W : World, W.heap[w.heap.size]? = some (.cells (sumV rt) 23 (0, 0)) ∧ W.heap[w.heap.size + 1]? = some (.cells #[.bool p.no, .slice ka p.k.length kc, .slice va p.v.length vc, .slice sa p.st.length sc] 29 (0, 0)) → (loadVar 23 ⟨w.heap.size, 0, none⟩).run Tryd.prog W = .ok (.agg (sumV rt)) W) := hid (fun W hW => load_sumZ hW.1 hr)
  have HLS : Hid (∀ W : World, W.heap[w.heap.size]? = some (.cells (sumV rt) 23 (0, 0)) ∧ W.heap[w.heap.size + 1]? = some (.cells #[.bool p.no, .slice ka p.k.length kc, .slice va p.v.length vc, .slice sa p.st.length sc] 29 (0, 0)) → (loadVar 27 ⟨w.heap.size + 1, 3, none⟩).run Tryd.prog W = .ok (.slice sa p.st.length sc) W) := hid (fun W hW =>
    run_load_slice W 27 _ Tryd.underlying27 ⟨w.heap.size + 1, 3, none⟩ _ (proof_cells hW.2).2.2.2)
  have hq : ∀ W, (Op.equalIn 10000 23 (.agg (sumV p.root)) (.agg (sumV rt))).run Tryd.prog W = .ok true W := fun W => by
    have := eq_sum p.root rt (sha_length _) hr W
    rw [decide_eq_true hne] at this
    exact this
  obtain ⟨A, hAe⟩ : ∃ A, sumV p.root = A := ⟨_, rfl⟩
  rw [hAe] at hq
  generalize sumV rt = R at *
  clear FS FB n0 n1 hp hk hw2
  refine last_region (fun W : World => W.heap[w.heap.size]? = some (.cells R 23 (0, 0)) ∧ W.heap[w.heap.size + 1]? = some (.cells #[.bool p.no, .slice ka p.k.length kc, .slice va p.v.length vc, .slice sa p.st.length sc] 29 (0, 0))) 15 (by kernel_rfl) ?_
  refine wpAnyE_take (i := 0) (v := (.agg #[.bool p.no, .slice ka p.k.length kc, .slice va p.v.length vc, .slice sa p.st.length sc])) rfl (by kernel_rfl) (by kernel_rfl) (by kernel_rfl) (by kernel_rfl) (by kernel_rfl) (fun _ _ _ h => h) (yields_val 29 (.tmp 5) rfl ⟨w.heap.size + 1, 0, none⟩ (by kernel_rfl) _ (by rfl) HLP.out) (by assumption) ?_
  simp only [Act.put, List.getElem_toArray, List.getElem_cons_zero, List.getElem_cons_succ, List.setIfInBounds_toArray, List.set_cons_zero, List.set_cons_succ]
  refine takeE_callw (i := 1) #[(.agg #[.bool p.no, .slice ka p.k.length kc, .slice va p.v.length vc, .slice sa p.st.length sc])] (fun u w' => u = .bool true ∧ Below w2.heap.size w2 w') (by kernel_rfl) rfl (by rfl) rfl (by kernel_rfl) (enters_of Tryd.func44 (by kernel_rfl) rfl) (HM.mono fun e w' ⟨h1, h2⟩ => ⟨_, h1, rfl, b2.trans h2⟩) ?_
  rintro _ w3 ⟨rfl, b3⟩
  have hS3 := HFS.out _ b3
  refine ⟨hS3, ?_⟩
  simp only [Act.put, List.getElem_toArray, List.getElem_cons_zero, List.getElem_cons_succ, List.setIfInBounds_toArray, List.set_cons_zero, List.set_cons_succ]
  refine wpAnyE_take (i := 2) (v := ?_) rfl (by kernel_rfl) (by kernel_rfl) (by kernel_rfl) (by kernel_rfl) (by kernel_rfl) (fun _ _ _ h => h) (Or.inl ⟨by rfl, ?_⟩) (by assumption) ?_; rotate_left; (focus (intro w hSw; (try dsimp only at hSw); (try obtain ⟨hSw1, hSw2, hSw3⟩ := hSw); go_simp <;> with_reducible rfl)); (try simp only [Act.put, List.getElem_toArray, List.getElem_cons_zero, List.getElem_cons_succ, List.setIfInBounds_toArray, List.set_cons_zero, List.set_cons_succ])
  refine wpAnyE_take (i := 3) (v := ?_) rfl (by kernel_rfl) (by kernel_rfl) (by kernel_rfl) (by kernel_rfl) (by kernel_rfl) (fun _ _ _ h => h) (Or.inl ⟨by rfl, ?_⟩) (by assumption) ?_; rotate_left; (focus (intro w hSw; (try dsimp only at hSw); (try obtain ⟨hSw1, hSw2, hSw3⟩ := hSw); go_simp <;> with_reducible rfl)); (try simp only [Act.put, List.getElem_toArray, List.getElem_cons_zero, List.getElem_cons_succ, List.setIfInBounds_toArray, List.set_cons_zero, List.set_cons_succ])
  refine wpAnyE_take (i := 4) (v := (.agg #[.bool p.no, .slice ka p.k.length kc, .slice va p.v.length vc, .slice sa p.st.length sc])) rfl (by kernel_rfl) (by kernel_rfl) (by kernel_rfl) (by kernel_rfl) (by kernel_rfl) (fun _ _ _ h => h) (yields_val 29 (.tmp 5) rfl ⟨w.heap.size + 1, 0, none⟩ (by kernel_rfl) _ (by rfl) HLP.out) (by assumption) ?_
  simp only [Act.put, List.getElem_toArray, List.getElem_cons_zero, List.getElem_cons_succ, List.setIfInBounds_toArray, List.set_cons_zero, List.set_cons_succ]
  refine wpAnyE_take (i := 6) (v := .agg R) rfl (by kernel_rfl) (by kernel_rfl) (by kernel_rfl) (by kernel_rfl) (by kernel_rfl) (fun _ _ _ h => h) (yields_val 23 (.tmp 3) rfl ⟨w.heap.size, 0, none⟩ (by kernel_rfl) _ (by rfl) HLR.out) (by assumption) ?_
  simp only [Act.put, List.getElem_toArray, List.getElem_cons_zero, List.getElem_cons_succ, List.setIfInBounds_toArray, List.set_cons_zero, List.set_cons_succ]
  have HR := prootOf_any B p _ _ _ w3 (HFB.out _ b3).2.2.1 (HFB.out _ b3).2.1 (HFB.out _ b3).2.2.2.1 hm
  rw [hAe] at HR
  refine takeE_callw (i := 5) #[(.agg #[.bool p.no, .slice ka p.k.length kc, .slice va p.v.length vc, .slice sa p.st.length sc])] (fun u w' => u = .agg A ∧ Below w2.heap.size w2 w') (by kernel_rfl) rfl (by rfl) rfl (by kernel_rfl) (enters_of Tryd.func48 (by kernel_rfl) rfl) (HR.mono fun e w' ⟨h1, h2⟩ => ⟨_, h1, rfl, b3.trans (h2.mono b3.size)⟩) ?_
  rintro _ w4 ⟨rfl, b4⟩
  have hS4 := HFS.out _ b4
  refine ⟨hS4, ?_⟩
  simp only [Act.put, List.getElem_toArray, List.getElem_cons_zero, List.getElem_cons_succ, List.setIfInBounds_toArray, List.set_cons_zero, List.set_cons_succ]
  refine wpAnyE_take (i := 7) (v := .bool (!true)) rfl (by kernel_rfl) (by kernel_rfl) (by kernel_rfl) (by kernel_rfl) (by kernel_rfl) (fun _ _ _ h => h) (yields_neq (.tmp 14) (.tmp 15) rfl A R true (by kernel_rfl) (by kernel_rfl) (by rfl) hq) (by assumption) ?_
  simp only [Act.put, List.getElem_toArray, List.getElem_cons_zero, List.getElem_cons_succ, List.setIfInBounds_toArray, List.set_cons_zero, List.set_cons_succ]
  refine wpAnyE_take (i := 8) (v := ?_) rfl (by kernel_rfl) (by kernel_rfl) (by kernel_rfl) (by kernel_rfl) (by kernel_rfl) (fun _ _ _ h => h) (Or.inl ⟨by rfl, ?_⟩) (by assumption) ?_; rotate_left; (focus (intro w hSw; (try dsimp only at hSw); (try obtain ⟨hSw1, hSw2, hSw3⟩ := hSw); go_simp <;> with_reducible rfl)); (try simp only [Act.put, List.getElem_toArray, List.getElem_cons_zero, List.getElem_cons_succ, List.setIfInBounds_toArray, List.set_cons_zero, List.set_cons_succ])
  refine wpAnyE_take (i := 9) (v := ?_) rfl (by kernel_rfl) (by kernel_rfl) (by kernel_rfl) (by kernel_rfl) (by kernel_rfl) (fun _ _ _ h => h) (Or.inl ⟨by rfl, ?_⟩) (by assumption) ?_; rotate_left; (focus (intro w hSw; (try dsimp only at hSw); (try obtain ⟨hSw1, hSw2, hSw3⟩ := hSw); go_simp <;> with_reducible rfl)); (try simp only [Act.put, List.getElem_toArray, List.getElem_cons_zero, List.getElem_cons_succ, List.setIfInBounds_toArray, List.set_cons_zero, List.set_cons_succ])
  refine wpAnyE_take (i := 10) (v := ?_) rfl (by kernel_rfl) (by kernel_rfl) (by kernel_rfl) (by kernel_rfl) (by kernel_rfl) (fun _ _ _ h => h) (Or.inl ⟨by rfl, ?_⟩) (by assumption) ?_; rotate_left; (focus (intro w hSw; (try dsimp only at hSw); (try obtain ⟨hSw1, hSw2, hSw3⟩ := hSw); go_simp <;> with_reducible rfl)); (try simp only [Act.put, List.getElem_toArray, List.getElem_cons_zero, List.getElem_cons_succ, List.setIfInBounds_toArray, List.set_cons_zero, List.set_cons_succ])
  refine wpAnyE_take (i := 11) (v := .slice sa p.st.length sc) rfl (by kernel_rfl) (by kernel_rfl) (by kernel_rfl) (by kernel_rfl) (by kernel_rfl) (fun _ _ _ h => h) (yields_val 27 (.tmp 19) rfl ⟨w.heap.size + 1, 3, none⟩ (by kernel_rfl) _ (by rfl) HLS.out) (by assumption) ?_
  simp only [Act.put, List.getElem_toArray, List.getElem_cons_zero, List.getElem_cons_succ, List.setIfInBounds_toArray, List.set_cons_zero, List.set_cons_succ]
  refine wpAnyE_take (i := 12) (v := ?_) rfl (by kernel_rfl) (by kernel_rfl) (by kernel_rfl) (by kernel_rfl) (by kernel_rfl) (fun _ _ _ h => h) (Or.inl ⟨by rfl, ?_⟩) (by assumption) ?_; rotate_left; (focus (intro w hSw; (try dsimp only at hSw); (try obtain ⟨hSw1, hSw2, hSw3⟩ := hSw); go_simp <;> with_reducible rfl)); (try simp only [Act.put, List.getElem_toArray, List.getElem_cons_zero, List.getElem_cons_succ, List.setIfInBounds_toArray, List.set_cons_zero, List.set_cons_succ])
  have HL := lead_any B B _ _ p.st kb w4 (HFB.out _ b4).2.2.1 (HFB.out _ b4).2.2.1 (HFB.out _ b4).2.1.hs (HFB.out _ b4).2.2.2.2
  rw [hlead] at HL
  refine takeE_callw (i := 13) #[.slice sa p.st.length sc, .slice ya kb.length yc] (fun u w' => u = .bool true ∧ Below w2.heap.size w2 w') (by kernel_rfl) rfl (by rfl) rfl (by kernel_rfl) (enters_of Tryd.func49 (by kernel_rfl) rfl) (HL.mono fun e w' ⟨h1, h2⟩ => ⟨_, h1, rfl, b4.trans (h2.mono b4.size)⟩) ?_
  rintro _ w5 ⟨rfl, b5⟩
  have hS5 := HFS.out _ b5
  refine ⟨hS5, ?_⟩
  simp only [Act.put, List.getElem_toArray, List.getElem_cons_zero, List.getElem_cons_succ, List.setIfInBounds_toArray, List.set_cons_zero, List.set_cons_succ]
  refine wpAnyE_take (i := 14) (v := ?_) rfl (by kernel_rfl) (by kernel_rfl) (by kernel_rfl) (by kernel_rfl) (by kernel_rfl) (fun _ _ _ h => h) (Or.inl ⟨by rfl, ?_⟩) (by assumption) ?_; rotate_left; (focus (intro w hSw; (try dsimp only at hSw); (try obtain ⟨hSw1, hSw2, hSw3⟩ := hSw); go_simp <;> with_reducible rfl)); (try simp only [Act.put, List.getElem_toArray, List.getElem_cons_zero, List.getElem_cons_succ, List.setIfInBounds_toArray, List.set_cons_zero, List.set_cons_succ])
  refine takeE_value (i := 15) (v := .bool false) (by kernel_rfl) rfl rfl (by rfl) (by assumption) ?_
  simp only [Act.put, List.getElem_toArray, List.getElem_cons_zero, List.getElem_cons_succ, List.setIfInBounds_toArray, List.set_cons_zero, List.set_cons_succ]
  refine wpAnyE_done (by kernel_rfl) ?_ _
  simp only [only_normal]
  obtain ⟨c0, c1, c2, c3⟩ := proof_cells hS5.2
  obtain ⟨r1, r2, r3, r4, r5⟩ := HFB.out _ b5
  have hvl : p.v.length ≤ 70368744177664 ∨ p.no = true := by
    cases hn : p.no with
    | true => exact .inr rfl
    | false =>
      simp only [Prf.may, hn, Bool.false_eq_true, if_false, Bool.and_eq_true, decide_eq_true_eq] at hm
      exact .inl (by omega)
  clear HLP HLR HLS HFS HM hS2 hS3 hS4 hS5 hq hAe HFB b2 b3 b4 b5 HR HL hlead hne r3 r4
  cases hn : p.no with
  | true =>
    rw [hn] at c0
    obtain rfl : b = true := by rw [← hb, hn]; rfl
    obtain rfl : val = [] := hval.symm
    clear hb hval
    have HN := hid (World.ownsRow_nil w5 w.heap.size 5 1)
    go_wp2
    go_ret3
    exact ⟨_, rfl, HN.out, r1⟩
  | false =>
    rw [hn] at c0
    have HE := equal_any B B (.slice ka p.k.length kc) (.slice ya kb.length yc) p.k kb w5 r2.hk r5
    by_cases hkk : p.k = kb
    · rw [decide_eq_true hkk] at HE
      have HC := copy_any (.slice va p.v.length vc) p.v w5 (r2.hv.mono (Nat.le_trans hB r1.size)) (hvl.resolve_right (by simp [hn]))
      obtain rfl : b = false := by rw [← hb, hn, hkk]; simp
      obtain rfl : val = p.v := hval.symm
      have HR1 := hid r1
      clear hkk r1 r2 r5 hb hval
      go_wp2_with (first
        | (go_at_call 50; refine HE.mono ?_; clear HE; rintro e w6 ⟨rfl, rfl⟩)
        | (go_at_call 51; refine HC.mono ?_; clear HC; rintro e w7 ⟨v', rfl, hcp, hb7⟩
           obtain ⟨ca, cc, rfl⟩ := hcp.form
           have HCP := hid hcp
           have HB7 := hid hb7
           clear hcp hb7))
      go_ret3
      refine ⟨_, rfl, ?_, HR1.out.trans (HB7.out.mono HR1.out.size)⟩
      exact owns_lower HCP.out (fun g hg => Nat.le_trans HR1.out.size (HCP.out.lt g hg).1)
    · rw [decide_eq_false hkk] at HE
      have HN := hid (World.ownsRow_nil w5 w.heap.size 5 1)
      obtain rfl : b = true := by rw [← hb, hn]; simp [hkk]
      obtain rfl : val = [] := hval.symm
      have HR1 := hid r1
      clear hkk r1 r2 r5 hb hval
      go_wp2_with (first
        | (go_at_call 50; refine HE.mono ?_; clear HE; rintro e w6 ⟨rfl, rfl⟩))
      go_ret3
      exact ⟨_, rfl, HN.out, HR1.out⟩

theorem check_any (B : Nat) (p : Prf) (kv vv sv key : Value) (rt kb : List UInt8) (w : World) (hB : B ≤ w.heap.size) (hp : PAt B w p kv vv sv) (hk : Shows B w key kb) (hr : rt.length = 32) (hT : Tables w) :
    Calls Tryd.prog 14 #[.agg (sumV rt), key, .agg #[.bool p.no, kv, vv, sv]] w fun e w' => ∃ v', e = .returned (.tuple #[v', .bool (p.tells rt kb).2.1, .int .i64 (p.tells rt kb).1]) ∧ Copy w.heap.size w' v' (p.tells rt kb).2.2 ∧ Below w.heap.size w w' := by
  have bad : (p.tells rt kb = (5, false, [])) → Calls Tryd.prog 14 #[.agg (sumV rt), key, .agg #[.bool p.no, kv, vv, sv]] w (fun e w' => e = .returned (.tuple #[.slice none 0 0, .bool false, .int .i64 5]) ∧ Below w.heap.size w w') → Calls Tryd.prog 14 #[.agg (sumV rt), key, .agg #[.bool p.no, kv, vv, sv]] w fun e w' => ∃ v', e = .returned (.tuple #[v', .bool (p.tells rt kb).2.1, .int .i64 (p.tells rt kb).1]) ∧ Copy w.heap.size w' v' (p.tells rt kb).2.2 ∧ Below w.heap.size w w' := fun e h => by
    rw [e]
    exact h.mono fun e w' ⟨h1, h2⟩ => ⟨_, h1, World.ownsRow_nil _ _ _ _, h2⟩
  cases hm : p.may with
  | false => exact bad (by simp [Prf.tells, hm]) (check_no B p kv vv sv key rt kb w hB hp hk hr hT hm)
  | true =>
    by_cases hne : p.root = rt
    · cases hl : leadsZ kb p.st with
      | false => exact bad (by simp [Prf.tells, hl]) (check_off B p kv vv sv key rt kb w hB hp hk hr hT hm hne hl)
      | true =>
        have e : p.tells rt kb = (if p.no || !decide (p.k = kb) then (0, false, []) else (0, true, p.v)) := by simp only [Prf.tells, hm, hne, hl, decide_true, Bool.and_self, if_true]
        have H := check_on B p kv vv sv key rt kb w hB hp hk hr hT hm hne hl _ _ rfl rfl
        rw [e]
        cases hb : (p.no || !decide (p.k = kb)) with
        | true => rw [hb] at H; exact H
        | false => rw [hb] at H; exact H
    · exact bad (by simp [Prf.tells, hne]) (check_ne B p kv vv sv key rt kb w hB hp hk hr hT hm hne)
end Go.Proofs.YtmafaioohiaenaaDoor
