/- Two proofs that say the same are told to be the same. -/
import Derived.Test.YthkeofinamedfaaDoorPlayA2
import Derived.Test.YthkeofinamedfaaDoorPathsP
import Derived.Test.YthkeofinamedfaaDoorEqD
namespace Go.Proofs.YthkeofinamedfaaDoor
open Go.RowKit Go.Shelf
set_option linter.unusedVariables false
set_option linter.unusedSimpArgs false
set_option maxRecDepth 20000

theorem quiet_load_agg {o : Oper} {a : Act} {C : World → Prop} {K : Act → Prop} (ty : TypeId) (x : Operand) (ho : o.op = .load ty x) (q : Addr) (hx : a.eval x = .pointer (some q)) (A : Array Value) (hr : ∀ w, C w → (loadVar ty q).run Tryd.prog w = .ok (.agg A) w)
    (hk : K (a.put o.dst (.agg A))) : o.quiet Tryd.prog a C K :=
  ⟨.agg A, fun w hw => by
    unfold Oper.quietAt execOp
    simp only [ho, hx, Instr.loadAt, Instr.sureAddr, Sem.run_bind, Sem.run_pure, Result.andThen_ok, hr w hw]
    exact ⟨rfl, rfl⟩, hk⟩

theorem sameProof_any (B C D : Nat) (b : Bool) (ek ev sv fk fv tv : Value) (kb vb : List UInt8) (L : List Stp) (w : World) (h1 : Says w ek kb) (h2 : Says w ev vb) (h3 : Says w fk kb) (h4 : Says w fv vb)
    (hL : ∀ s ∈ L, s.2.2.length = 32) (h5 : w.ownsRow B 62 34 sv L.length (L.flatMap stepC)) (h6 : w.ownsRow C 62 34 tv L.length (L.flatMap stepC)) (hn : L.length ≤ 140737488355328) :
    Calls Tryd.prog 34 #[.agg #[.bool b, ek, ev, sv], .agg #[.bool b, fk, fv, tv]] w fun e w' => e = .returned (.bool true) ∧ Below w.heap.size w w' := by
  obtain ⟨a1, c1, rfl, _⟩ := id h1
  obtain ⟨a2, c2, rfl, _⟩ := id h2
  obtain ⟨a3, c3, rfl, _⟩ := id h3
  obtain ⟨a4, c4, rfl, _⟩ := id h4
  obtain ⟨a5, c5, rfl⟩ : ∃ a c, sv = .slice a L.length c := form34 h5
  obtain ⟨a6, c6, rfl⟩ : ∃ a c, tv = .slice a L.length c := form34 h6
  have H1 := hid h1
  have H2 := hid h2
  have H3 := hid h3
  have H4 := hid h4
  have H5 := hid h5
  have H6 := hid h6
  have HL := hid hL
  clear h1 h2 h3 h4 h5 h6 hL
  go_enter Tryd.func34, Tryd.ntmps34
  go_wp2_with fail
  obtain ⟨f1, f2, f3, f4, hb⟩ := four_blocks w (Obj.cells #[Value.bool b, Value.slice a1 kb.length c1, Value.slice a2 vb.length c2, Value.slice a5 L.length c5] 59) (Obj.cells #[Value.bool b, Value.slice a3 kb.length c3, Value.slice a4 vb.length c4, Value.slice a6 L.length c6] 59) (Obj.cells #[Value.slice a1 kb.length c1, Value.slice a2 vb.length c2] 52) (Obj.cells #[Value.slice a3 kb.length c3, Value.slice a4 vb.length c4] 52)
  have F1 := hid f1
  have F2 := hid f2
  have F3 := hid f3
  have F4 := hid f4
  have HB := hid hb
  clear f1 f2 f3 f4 hb
  generalize ((((w.alloc (Obj.cells #[Value.bool b, Value.slice a1 kb.length c1, Value.slice a2 vb.length c2, Value.slice a5 L.length c5] 59)).alloc (Obj.cells #[Value.bool b, Value.slice a3 kb.length c3, Value.slice a4 vb.length c4, Value.slice a6 L.length c6] 59)).alloc (Obj.cells #[Value.slice a1 kb.length c1, Value.slice a2 vb.length c2] 52)).alloc (Obj.cells #[Value.slice a3 kb.length c3, Value.slice a4 vb.length c4] 52)) = W at *
  refine (same_any _ _ _ _ [⟨_, _, kb, vb⟩] [⟨_, _, kb, vb⟩] W (ents_one F3.out (H1.out.new HB.out) (H2.out.new HB.out)) (ents_one F4.out (H3.out.new HB.out) (H4.out.new HB.out)) rfl).mono ?_
  rintro e w5 ⟨rfl, q, hw5⟩
  have hwh : ∀ i : Nat, w5.heap[i]? = W.heap[i]? := fun i => by rw [hw5]; rfl
  have F15 := hid ((hwh _).trans F1.out)
  have F25 := hid ((hwh _).trans F2.out)
  have HB5 : Hid (Below w.heap.size w w5) := by rw [hw5]; exact hid (HB.out.trans (below_drewN _ _ q))
  clear hwh hw5 F1 F2 F3 F4 HB
  have g0 : w5.cell? ⟨w.heap.size, 0, none⟩ = some (.bool b) := by simp [World.cell?, F15.out]
  have g3 : w5.cell? ⟨w.heap.size, 3, none⟩ = some (.slice a5 L.length c5) := by simp [World.cell?, F15.out]
  have k0 : w5.cell? ⟨w.heap.size + 1, 0, none⟩ = some (.bool b) := by simp [World.cell?, F25.out]
  have k3 : w5.cell? ⟨w.heap.size + 1, 3, none⟩ = some (.slice a6 L.length c6) := by simp [World.cell?, F25.out]
  have hbb : (b == b) = true := by simp
  go_wp2_with fail
  go_loopw [6] (fun i wr => ∃ k : Nat, k ≤ L.length ∧ i = .int .i64 k ∧ Hid (∃ q, wr = w5.drewN q)) (fun i _ => L.length - (intOf i).toNat)
  case atStart => exact ⟨0, Nat.zero_le _, rfl, hid ⟨0, rfl⟩⟩
  case round =>
    obtain ⟨k, hk, rfl, HQ⟩ := hrel
    clear g0 g3 k0 k3
    have HBR : Hid (Below w.heap.size w wr) := hid (by obtain ⟨q, rfl⟩ := HQ.out; exact HB5.out.trans (below_drewN _ _ q))
    have hwh : ∀ i : Nat, wr.heap[i]? = w5.heap[i]? := fun i => by obtain ⟨q, e⟩ := HQ.out; rw [e]; rfl
    have F16 := hid ((hwh _).trans F15.out)
    have F26 := hid ((hwh _).trans F25.out)
    clear hwh
    have HQ2 : Hid (∀ m, ∃ q, wr.drewN m = w5.drewN q) := hid (fun m => by obtain ⟨q, hq⟩ := HQ.out; exact ⟨q + m, by rw [hq, World.drewN_drewN]⟩)
    have g3 : wr.cell? ⟨w.heap.size, 3, none⟩ = some (.slice a5 L.length c5) := by simp [World.cell?, F16.out]
    have k3 : wr.cell? ⟨w.heap.size + 1, 3, none⟩ = some (.slice a6 L.length c6) := by simp [World.cell?, F26.out]
    by_cases hlt : k < L.length
    · obtain ⟨ga, ca, ea, _⟩ := H5.out.form (by omega)
      obtain ⟨gb, cb, eb, _⟩ := H6.out.form (by omega)
      simp only [Value.slice.injEq] at ea eb
      obtain ⟨rfl, _, rfl⟩ := ea
      obtain ⟨rfl, _, rfl⟩ := eb
      have hs := List.getElem?_eq_getElem hlt
      have R1 := fun m => load_step HL.out ((Spares.of_new (S := fun _ => False) (HBR.out.trans (below_drewN _ _ m))).row H5.out (fun _ _ => id)) rfl k _ hs
      have R2 := fun m => load_step HL.out ((Spares.of_new (S := fun _ => False) (HBR.out.trans (below_drewN _ _ m))).row H6.out (fun _ _ => id)) rfl k _ hs
      have hE := fun W => step_same L[k] (HL.out _ (List.getElem_mem hlt)) W
      generalize (stepC L[k]).toArray = A at *
      have hki : (k : Int) < (L.length : Int) := by omega
      have hk0 : (0 : Int) ≤ (k : Int) := by omega
      have HK := hid hlt
      clear hs
      go_wp2_with fail
      refine wp_region_quiet_lit (by kernel_rfl) (by kernel_rfl) ?_
      iterate 4 (go_big_quiet_step (fail))
      go_big_quiet_want
      refine quiet_load_agg 62 _ rfl ⟨ga, k * 34, none⟩ ?_ A (fun W hW => ?_) ?_
      · rfl
      · obtain ⟨m, rfl⟩ := hW
        exact R1 m
      simp only [Act.put, List.getElem_toArray, List.getElem_cons_zero, List.getElem_cons_succ, List.setIfInBounds_toArray, List.set_cons_zero, List.set_cons_succ]
      go_big_quiet_on
      iterate 4 (go_big_quiet_step (fail))
      go_big_quiet_want
      refine quiet_load_agg 62 _ rfl ⟨gb, k * 34, none⟩ ?_ A (fun W hW => ?_) ?_
      · rfl
      · obtain ⟨m, rfl⟩ := hW
        exact R2 m
      simp only [Act.put, List.getElem_toArray, List.getElem_cons_zero, List.getElem_cons_succ, List.setIfInBounds_toArray, List.set_cons_zero, List.set_cons_succ]
      go_big_quiet_on
      go_big_quiet_step (fail)
      refine wpQuiet_nil ?_
      intro _ hw'
      obtain ⟨nq, hw''⟩ := hw'
      subst hw''
      go_wp2_with fail
      go_roundw
      case rel => exact ⟨k + 1, HK.out, by go_num, hid (HQ2.out _)⟩
      case measure => have := HK.out; simp [intOf]; omega
    · have hki : (L.length : Int) ≤ (k : Int) := by omega
      go_wp2
      go_ret
      exact ⟨rfl, HBR.out⟩
end Go.Proofs.YthkeofinamedfaaDoor
