/- Two proofs that say the same are told to be the same. -/
import Derived.Test.YtmafaioohiaenaaDoorAllF
import Derived.Test.YtmafaioohiaenaaDoorEqD
import Derived.Test.YtmafaioohiaenaaDoorZst
namespace Go.Proofs.YtmafaioohiaenaaDoor
open Go.RowKit Go.Shelf
set_option linter.unusedVariables false
set_option linter.unusedSimpArgs false
set_option maxRecDepth 20000

theorem Tryd.fieldsStepZ : Tryd.prog.underlying 66 = some (.struct (Tryd.prog.fieldsOf 66)) := by kernel_rfl
theorem Tryd.stoodStepZ : Tryd.prog.stoodInHeld 66 = false := by kernel_rfl

theorem ents_oneZ {W : World} {g : Nat} {kv vv : Value} {k v : List UInt8} (hg : W.heap[g]? = some (.cells #[kv, vv] 26 (0, 0))) (h1 : Says W kv k) (h2 : Says W vv v) : Ents W.heap.size W (.slice (some ⟨g, 0, none⟩) 1 1) [⟨kv, vv, k, v⟩] := by
  refine ⟨_, 1, rfl, Nat.le_refl _, by unfold maxLen; omega, fun _ => ⟨g, 0, rfl, (Array.getElem?_eq_some_iff.1 hg).1, fun j x hx => ?_⟩⟩
  have hj : j = 0 := by have := (List.getElem?_eq_some_iff.1 hx).1; simpa using this
  subst hj
  simp only [List.getElem?_cons_zero, Option.some.injEq] at hx
  subst hx
  exact ⟨by simp [World.cell?, hg], by simp [World.cell?, hg], h1, h2⟩

theorem size_alloc1Z (w : World) (A : Obj) : (w.alloc A).heap.size = w.heap.size + 1 := by
  show (w.heap.push A).size = _
  simp

theorem four_blocksZ (w : World) (A B C D : Obj) : ((((w.alloc A).alloc B).alloc C).alloc D).heap[w.heap.size]? = some A ∧ ((((w.alloc A).alloc B).alloc C).alloc D).heap[w.heap.size + 1]? = some B ∧ ((((w.alloc A).alloc B).alloc C).alloc D).heap[w.heap.size + 1 + 1]? = some C ∧ ((((w.alloc A).alloc B).alloc C).alloc D).heap[w.heap.size + 1 + 1 + 1]? = some D ∧ Below w.heap.size w ((((w.alloc A).alloc B).alloc C).alloc D) := by
  have e1 : (w.alloc A).heap.size = w.heap.size + 1 := size_alloc1Z _ _
  have e2 : ((w.alloc A).alloc B).heap.size = w.heap.size + 1 + 1 := by simp only [size_alloc1Z]
  have e3 : (((w.alloc A).alloc B).alloc C).heap.size = w.heap.size + 1 + 1 + 1 := by simp only [size_alloc1Z]
  have old : ∀ (w : World) (o : Obj) (i : Nat), i < w.heap.size → (w.alloc o).heap[i]? = w.heap[i]? := fun w o i h => by
    show (w.heap.push o)[i]? = w.heap[i]?
    rw [Array.getElem?_push, if_neg (Nat.ne_of_lt h)]
  refine ⟨?_, ?_, ?_, ?_, ?_⟩
  · rw [old _ _ _ (by omega), old _ _ _ (by omega), old _ _ _ (by omega), heap_alloc_new]
  · rw [old _ _ _ (by omega), old _ _ _ (by omega), ← e1, heap_alloc_new]
  · rw [old _ _ _ (by omega), ← e2, heap_alloc_new]
  · rw [← e3, heap_alloc_new]
  · exact Below.alloc (Below.alloc (Below.alloc (Below.alloc (Below.refl _ _) (by omega) _) (by omega) _) (by omega) _) (by omega) _

theorem eqf_stepZ (e : Nat) (A : Array Value) (a b c : Value) (w : World) (h4 : (Go.part 3 A 0).run Tryd.prog w = .ok a w) (h5 : (Go.part 4 A 1).run Tryd.prog w = .ok b w) (h2 : (Go.part 23 A 2).run Tryd.prog w = .ok c w)
    (h6 : (Op.equalIn e 3 a a).run Tryd.prog w = .ok true w) (h7 : (Op.equalIn e 4 b b).run Tryd.prog w = .ok true w) (h3 : (Op.equalIn e 23 c c).run Tryd.prog w = .ok true w) :
    (Op.eqFields e A A (Tryd.prog.fieldsOf 66).toList).run Tryd.prog w = .ok true w := by
  simp only [Program.fieldsOf, Tryd.underlying66]
  simp [Op.eqFields, h2, h3, h4, h5, h6, h7]

theorem step_same_atZ (d : Nat) (s : Zst) (h : s.2.2.length = 32) (w : World) : (Op.equalIn (d + 1 + 1 + 1) 66 (.agg (zc s).toArray) (.agg (zc s).toArray)).run Tryd.prog w = .ok true w := by
  rw [run_equalIn_struct (P := Tryd.prog) w (d + 1 + 1) 66 _ _ Tryd.fieldsStepZ Tryd.stoodStepZ]
  have h2 : (Go.part 23 (zc s).toArray 2).run Tryd.prog w = .ok (.agg (s.2.2.map by8).toArray) w := by
    have hz : (sizeOf 23).run Tryd.prog w = .ok 32 w := by simp [go_sem]
    simp [Go.part, go_sem, zc, h]
    exact List.take_of_length_le (by simp [h])
  have h3 : (Op.equalIn (d + 1 + 1) 23 (.agg (s.2.2.map by8).toArray) (.agg (s.2.2.map by8).toArray)).run Tryd.prog w = .ok true w := sum_same_at (d + 1) s.2.2 h w (fun a => by rw [run_equalIn_int w d 5 .u8 .u8 a a Tryd.underlying5]; simp)
  have h4 : (Go.part 3 (zc s).toArray 0).run Tryd.prog w = .ok (.int .i64 s.1) w := by simp [Go.part, go_sem, zc]
  have h5 : (Go.part 4 (zc s).toArray 1).run Tryd.prog w = .ok (.bool s.2.1) w := by simp [Go.part, go_sem, zc]
  have h6 : (Op.equalIn (d + 1 + 1) 3 (.int .i64 s.1) (.int .i64 s.1)).run Tryd.prog w = .ok true w := by
    rw [run_equalIn_int (P := Tryd.prog) w (d + 1) 3 .i64 .i64 s.1 s.1 Tryd.underlying3]; simp
  have h7 : (Op.equalIn (d + 1 + 1) 4 (.bool s.2.1) (.bool s.2.1)).run Tryd.prog w = .ok true w := by
    rw [run_equalIn_bool' (P := Tryd.prog) w (d + 1) 4 s.2.1 s.2.1 Tryd.underlying4]; simp
  exact eqf_stepZ _ _ _ _ _ w h4 h5 h2 h6 h7 h3

theorem step_sameZ (s : Zst) (h : s.2.2.length = 32) (w : World) : (Op.equalIn 10000 66 (.agg (zc s).toArray) (.agg (zc s).toArray)).run Tryd.prog w = .ok true w := by
  rw [show (10000 : Nat) = 9997 + 1 + 1 + 1 from rfl]
  exact step_same_atZ 9997 s h w

theorem quiet_load_aggZ {o : Oper} {a : Act} {C : World → Prop} {K : Act → Prop} (ty : TypeId) (x : Operand) (ho : o.op = .load ty x) (q : Addr) (hx : a.eval x = .pointer (some q)) (A : Array Value) (hr : ∀ w, C w → (loadVar ty q).run Tryd.prog w = .ok (.agg A) w)
    (hk : K (a.put o.dst (.agg A))) : o.quiet Tryd.prog a C K :=
  ⟨.agg A, fun w hw => by
    unfold Oper.quietAt execOp
    simp only [ho, hx, Instr.loadAt, Instr.sureAddr, Sem.run_bind, Sem.run_pure, Result.andThen_ok, hr w hw]
    exact ⟨rfl, rfl⟩, hk⟩

set_option maxHeartbeats 4000000 in
theorem sameZ_any (B C : Nat) (p : Prf) (ek ev sv fk fv tv : Value) (w : World) (hp : PAt B w p ek ev sv) (hq : PAt C w p fk fv tv) (hB : B ≤ w.heap.size) (hC : C ≤ w.heap.size) :
    Calls Tryd.prog 15 #[.agg #[.bool p.no, ek, ev, sv], .agg #[.bool p.no, fk, fv, tv]] w fun e w' => e = .returned (.bool true) ∧ Below w.heap.size w w' := by
  obtain ⟨b, kb, vb, L⟩ := p
  obtain ⟨h1, h2, h5⟩ := hp.mono hB
  obtain ⟨h3, h4, h6⟩ := hq.mono hC
  simp only at h1 h2 h3 h4 h5 h6 ⊢
  obtain ⟨a1, c1, rfl, _⟩ := id h1
  obtain ⟨a2, c2, rfl, _⟩ := id h2
  obtain ⟨a3, c3, rfl, _⟩ := id h3
  obtain ⟨a4, c4, rfl, _⟩ := id h4
  obtain ⟨a5, c5, rfl, hn1, hn2⟩ := h5.form
  obtain ⟨a6, c6, rfl, _, _⟩ := h6.form
  unfold maxLen at hn2
  have H1 : Hid (Says w (.slice a1 kb.length c1) kb) := hid h1
  have H2 : Hid (Says w (.slice a2 vb.length c2) vb) := hid h2
  have H3 : Hid (Says w (.slice a3 kb.length c3) kb) := hid h3
  have H4 : Hid (Says w (.slice a4 vb.length c4) vb) := hid h4
  have H5 := hid h5
  have H6 := hid h6
  clear h1 h2 h3 h4 h5 h6
  go_enter Tryd.func15, Tryd.ntmps15
  go_wp2_with fail
  obtain ⟨f1, f2, f3, f4, hb⟩ := four_blocksZ w (Obj.cells #[Value.bool b, Value.slice a1 kb.length c1, Value.slice a2 vb.length c2, Value.slice a5 L.length c5] 29) (Obj.cells #[Value.bool b, Value.slice a3 kb.length c3, Value.slice a4 vb.length c4, Value.slice a6 L.length c6] 29) (Obj.cells #[Value.slice a1 kb.length c1, Value.slice a2 vb.length c2] 26) (Obj.cells #[Value.slice a3 kb.length c3, Value.slice a4 vb.length c4] 26)
  have F1 := hid f1
  have F2 := hid f2
  have F3 := hid f3
  have F4 := hid f4
  have HB := hid hb
  clear f1 f2 f3 f4 hb
  generalize ((((w.alloc (Obj.cells #[Value.bool b, Value.slice a1 kb.length c1, Value.slice a2 vb.length c2, Value.slice a5 L.length c5] 29)).alloc (Obj.cells #[Value.bool b, Value.slice a3 kb.length c3, Value.slice a4 vb.length c4, Value.slice a6 L.length c6] 29)).alloc (Obj.cells #[Value.slice a1 kb.length c1, Value.slice a2 vb.length c2] 26)).alloc (Obj.cells #[Value.slice a3 kb.length c3, Value.slice a4 vb.length c4] 26)) = W at *
  refine (same_any _ _ _ _ [⟨_, _, kb, vb⟩] [⟨_, _, kb, vb⟩] W (ents_oneZ F3.out (H1.out.new HB.out) (H2.out.new HB.out)) (ents_oneZ F4.out (H3.out.new HB.out) (H4.out.new HB.out)) rfl).mono ?_
  rintro e w5 ⟨rfl, q, hw5⟩
  have hwh : ∀ i : Nat, w5.heap[i]? = W.heap[i]? := fun i => by rw [hw5]; rfl
  have F15 := hid ((hwh _).trans F1.out)
  have F25 := hid ((hwh _).trans F2.out)
  have HB5 : Hid (Below w.heap.size w w5) := by rw [hw5]; exact hid (HB.out.trans (below_drewN _ _ q))
  clear hwh hw5 F1 F2 F3 F4 HB
  have g0 : w5.cell? ⟨w.heap.size, 0, none⟩ = some (.bool b) := by simp [World.cell?, F15.out]
  have g3 : w5.cell? ⟨w.heap.size, 3, none⟩ = some (.slice a5 L.length c5) := by simp [World.cell?, F15.out]
  have k0 : w5.cell? ⟨w.heap.size + 1, 0, none⟩ = some (.bool b) := by simp [World.cell?, F25.out]
  have k3 : w5.cell? ⟨w.heap.size + 1, 3, none⟩ = some (.slice a6 L.length c6) := by simp [World.cell?, F25.out]
  have hbb : (b == b) = true := by simp
  go_wp2_with fail
  go_loopw [6] (fun i wr => ∃ k : Nat, k ≤ L.length ∧ i = .int .i64 k ∧ Hid (∃ q, wr = w5.drewN q)) (fun i _ => L.length - (intOf i).toNat)
  case atStart => exact ⟨0, Nat.zero_le _, rfl, hid ⟨0, rfl⟩⟩
  case round =>
    obtain ⟨k, hk, rfl, HQ⟩ := hrel
    clear g0 g3 k0 k3
    have HBR : Hid (Below w.heap.size w wr) := hid (by obtain ⟨q, rfl⟩ := HQ.out; exact HB5.out.trans (below_drewN _ _ q))
    have hwh : ∀ i : Nat, wr.heap[i]? = w5.heap[i]? := fun i => by obtain ⟨q, e⟩ := HQ.out; rw [e]; rfl
    have F16 := hid ((hwh _).trans F15.out)
    have F26 := hid ((hwh _).trans F25.out)
    clear hwh
    have HQ2 : Hid (∀ m, ∃ q, wr.drewN m = w5.drewN q) := hid (fun m => by obtain ⟨q, hq⟩ := HQ.out; exact ⟨q + m, by rw [hq, World.drewN_drewN]⟩)
    have g3 : wr.cell? ⟨w.heap.size, 3, none⟩ = some (.slice a5 L.length c5) := by simp [World.cell?, F16.out]
    have k3 : wr.cell? ⟨w.heap.size + 1, 3, none⟩ = some (.slice a6 L.length c6) := by simp [World.cell?, F26.out]
    by_cases hlt : k < L.length
    · have hs := List.getElem?_eq_getElem hlt
      obtain ⟨ga, oa, rfl, _, hok, R10⟩ := H5.out.at k _ hs
      obtain ⟨gb, ob, rfl, _, _, R20⟩ := H6.out.at k _ hs
      have R1 := fun m => R10 _ (HBR.out.trans (below_drewN _ _ m))
      have R2 := fun m => R20 _ (HBR.out.trans (below_drewN _ _ m))
      have hE := fun W => step_sameZ L[k] hok.len W
      generalize (zc L[k]).toArray = A at *
      clear R10 R20 hok
      have hki : (k : Int) < (L.length : Int) := by omega
      have hk0 : (0 : Int) ≤ (k : Int) := by omega
      have HK := hid hlt
      clear hs
      go_wp2_with fail
      refine wp_region_quiet_lit (by kernel_rfl) (by kernel_rfl) ?_
      iterate 4 (go_big_quiet_step (fail))
      go_big_quiet_want
      refine quiet_load_aggZ 66 _ rfl ⟨ga, oa + k * 34, none⟩ ?_ A (fun W hW => ?_) ?_
      · rfl
      · obtain ⟨m, rfl⟩ := hW
        exact R1 m
      simp only [Act.put, List.getElem_toArray, List.getElem_cons_zero, List.getElem_cons_succ, List.setIfInBounds_toArray, List.set_cons_zero, List.set_cons_succ]
      go_big_quiet_on
      iterate 4 (go_big_quiet_step (fail))
      go_big_quiet_want
      refine quiet_load_aggZ 66 _ rfl ⟨gb, ob + k * 34, none⟩ ?_ A (fun W hW => ?_) ?_
      · rfl
      · obtain ⟨m, rfl⟩ := hW
        exact R2 m
      simp only [Act.put, List.getElem_toArray, List.getElem_cons_zero, List.getElem_cons_succ, List.setIfInBounds_toArray, List.set_cons_zero, List.set_cons_succ]
      go_big_quiet_on
      go_big_quiet_step (fail)
      refine wpQuiet_nil ?_
      intro _ hw'
      obtain ⟨nq, hw''⟩ := hw'
      subst hw''
      go_wp2_with fail
      go_roundw
      case rel => exact ⟨k + 1, HK.out, by go_num, hid (HQ2.out _)⟩
      case measure => have := HK.out; simp [intOf]; omega
    · have hki : (L.length : Int) ≤ (k : Int) := by omega
      go_wp2
      go_ret
      exact ⟨rfl, HBR.out⟩
end Go.Proofs.YtmafaioohiaenaaDoor
