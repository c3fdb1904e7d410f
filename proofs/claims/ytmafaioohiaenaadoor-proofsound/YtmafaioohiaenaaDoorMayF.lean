/- Contracts of proof.placesRise, leadTo, mayBe. -/
import Derived.Test.YtmafaioohiaenaaDoorZst
namespace Go.Proofs.YtmafaioohiaenaaDoor
open Go.RowKit Go.Shelf
set_option linter.unusedVariables false
set_option linter.unusedSimpArgs false
set_option maxRecDepth 20000

/-- A step in a box of its own. -/
theorem box_step (w : World) (s : Zst) (h : ZOk s) (o : Obj) (ho : o = .cells zeroStep 66) :
    ((w.alloc o).setRow w.heap.size (zc s).toArray).heap[w.heap.size]? = some (.cells (zc s).toArray 66 (0, 0)) ∧ Below w.heap.size w ((w.alloc o).setRow w.heap.size (zc s).toArray) ∧ ((w.alloc o).setRow w.heap.size (zc s).toArray).heap.size = w.heap.size + 1 := by
  subst ho
  have h := World.alloc_heap_new w (.cells zeroStep 66)
  refine ⟨setRow_heap _ _ _ _ _ _ h, below_setRow ((Below.refl _ _).alloc (Nat.le_refl _) _) (Nat.le_refl _) _, ?_⟩
  simp [World.setRow]

theorem zc_size {s : Zst} (h : ZOk s) : (zc s).toArray.size = 34 := by rw [List.size_toArray, zc_length h]

structure IsStep (A : Array Value) : Prop where
  info : (Tryd.prog.info? 66).map (·.size) = some A.size
  one : A.all (·.oneCell') = true
  size : zeroStep.size = A.size

theorem isStep {s : Zst} (h : ZOk s) : IsStep (zc s).toArray := by
  refine ⟨by rw [zc_size h]; exact Tryd.infoStepZ, ?_, by rw [zc_size h]; rfl⟩
  rw [List.all_toArray, List.all_eq_true]
  exact zc_one s

theorem boxed_cells {w : World} {g : Nat} {s : Zst} (h : w.heap[g]? = some (.cells (zc s).toArray 66 (0, 0))) : w.cell? ⟨g, 0, none⟩ = some (.int .i64 s.1) ∧ w.cell? ⟨g, 1, none⟩ = some (.bool s.2.1) := by
  constructor <;> (rw [cell_of_row _ _ _ _ _ _ h]; simp [zc])

theorem risesZ_at (e : Int) : ∀ (L : List Zst) (m : Int), risesZ e m L = true → ∀ s ∈ L, m ≤ s.1 ∧ s.1 < e
  | [], m, _, s, hs => by cases hs
  | x :: r, m, h, s, hs => by
    simp only [risesZ] at h
    split at h
    · cases h
    · rename_i hx
      rcases List.mem_cons.1 hs with rfl | hs
      · omega
      · have := risesZ_at e r (x.1 + 1) h s hs
        omega

set_option maxHeartbeats 4000000 in
theorem rise_any (B : Nat) (sv : Value) (L : List Zst) (e : Int) (w : World) (hB : B ≤ w.heap.size) (hS : Stps B w sv L) (he : e ≤ 9223372036854775807) :
    Calls Tryd.prog 77 #[sv, .int .i64 e] w fun r w' => r = .returned (.bool (risesZ e 0 L)) ∧ Below w.heap.size w w' := by
  obtain ⟨a, c, rfl, hc1, hc2⟩ := hS.form
  unfold maxLen at hc2
  have HS := hid hS
  clear hS
  go_enter Tryd.func77, Tryd.ntmps77
  go_wp2_with fail
  go_loopw [5, 10] (fun m i wr => ∃ (k : Nat) (q : Int), k ≤ L.length ∧ i = .int .i64 (k : Int) ∧ m = .int .i64 q ∧ Hid (risesZ e q (L.drop k) = risesZ e 0 L) ∧ Hid (Below w.heap.size w wr)) (fun _ i _ => L.length - (intOf i).toNat)
  case atStart => exact ⟨0, 0, by omega, rfl, rfl, hid rfl, hid (Below.refl _ _)⟩
  case round =>
    obtain ⟨k, q, hk, rfl, rfl, HR, HB⟩ := hrel
    by_cases hlt : k < L.length
    · have hki : (k : Int) < (L.length : Int) := by omega
      have hk0 : (0 : Int) ≤ (k : Int) := by omega
      have hs := List.getElem?_eq_getElem hlt
      have hd : L.drop k = L[k] :: L.drop (k + 1) := List.drop_eq_getElem_cons hlt
      rw [hd] at HR
      generalize L[k] = s at *
      obtain ⟨b, off, rfl, hbB, hok, hld⟩ := HS.out.at k s hs
      have hl := hld wr (HB.out.mono hB)
      have HI := hid (isStep hok)
      obtain ⟨x1, x2, x3⟩ := box_step wr s hok (.cells zeroStep 66) rfl
      have hx0 := (boxed_cells x1).1
      have HX := hid (HB.out.trans (x2.mono HB.out.size))
      clear x1 x2 x3 hld hs hd
      generalize hA : (zc s).toArray = A at *
      clear hA
      by_cases h1 : s.1 < q
      · have HF : Hid (risesZ e 0 L = false) := hid (by rw [← HR.out]; simp [risesZ, h1])
        clear HR
        go_wp2_with (first
          | (refine wpList_load_z rfl 66 (.tmp 12) rfl ⟨b, off + k * 34, none⟩ rfl A hl ?_)
          | (refine wpList_store_row rfl 66 (.tmp 7) (.tmp 13) rfl wr.heap.size A rfl rfl 66 zeroStep (World.alloc_heap_new wr _) HI.out.info HI.out.size HI.out.one ?_
             generalize hw2 : World.setRow _ wr.heap.size A = w2
             replace hx0 : w2.cell? ⟨wr.heap.size, 0, none⟩ = some (.int .i64 s.1) := by rw [← hw2]; exact hx0
             replace HX : Hid (Below w.heap.size w w2) := hid (by rw [← hw2]; exact HX.out)
             clear hw2))
        go_ret
        exact ⟨by rw [HF.out]; rfl, HX.out⟩
      · by_cases h2 : e ≤ s.1
        · have HF : Hid (risesZ e 0 L = false) := hid (by rw [← HR.out]; simp [risesZ, h2])
          clear HR
          have h1' : q ≤ s.1 := by omega
          go_wp2_with (first
            | (refine wpList_load_z rfl 66 (.tmp 12) rfl ⟨b, off + k * 34, none⟩ rfl A hl ?_)
            | (refine wpList_store_row rfl 66 (.tmp 7) (.tmp 13) rfl wr.heap.size A rfl rfl 66 zeroStep (World.alloc_heap_new wr _) HI.out.info HI.out.size HI.out.one ?_
               generalize hw2 : World.setRow _ wr.heap.size A = w2
               replace hx0 : w2.cell? ⟨wr.heap.size, 0, none⟩ = some (.int .i64 s.1) := by rw [← hw2]; exact hx0
               replace HX : Hid (Below w.heap.size w w2) := hid (by rw [← hw2]; exact HX.out)
               clear hw2))
          go_ret
          exact ⟨by rw [HF.out]; rfl, HX.out⟩
        · have HR2 : Hid (risesZ e (s.1 + 1) (L.drop (k + 1)) = risesZ e 0 L) := hid (by rw [← HR.out]; simp only [risesZ]; rw [if_neg (by omega)])
          clear HR
          have h1' : q ≤ s.1 := by omega
          have h2' : s.1 < e := by omega
          have HLo := hok.lo
          have HK := hid hlt
          go_wp2_with (first
            | (refine wpList_load_z rfl 66 (.tmp 12) rfl ⟨b, off + k * 34, none⟩ rfl A hl ?_)
            | (refine wpList_store_row rfl 66 (.tmp 7) (.tmp 13) rfl wr.heap.size A rfl rfl 66 zeroStep (World.alloc_heap_new wr _) HI.out.info HI.out.size HI.out.one ?_
               generalize hw2 : World.setRow _ wr.heap.size A = w2
               replace hx0 : w2.cell? ⟨wr.heap.size, 0, none⟩ = some (.int .i64 s.1) := by rw [← hw2]; exact hx0
               replace HX : Hid (Below w.heap.size w w2) := hid (by rw [← hw2]; exact HX.out)
               clear hw2))
          go_roundw
          case rel => exact ⟨k + 1, s.1 + 1, HK.out, by go_num, rfl, HR2, HX⟩
          case measure => have := HK.out; simp [intOf]; omega
    · have hki : (L.length : Int) ≤ (k : Int) := by omega
      have HF : Hid (risesZ e 0 L = true) := hid (by rw [← HR.out, List.drop_eq_nil_of_le (by omega)]; rfl)
      clear HR
      go_wp2
      go_ret
      exact ⟨by rw [HF.out]; rfl, HB.out⟩

set_option maxHeartbeats 4000000 in
theorem lead_any (B C : Nat) (sv kv : Value) (L : List Zst) (key : List UInt8) (w : World) (hB : B ≤ w.heap.size) (hC : C ≤ w.heap.size) (hS : Stps B w sv L) (hk : Shows C w kv key) :
    Calls Tryd.prog 49 #[sv, kv] w fun r w' => r = .returned (.bool (leadsZ key L)) ∧ Below w.heap.size w w' := by
  obtain ⟨a, c, rfl, hc1, hc2⟩ := hS.form
  obtain ⟨ka, kc, rfl, _⟩ := id hk
  unfold maxLen at hc2
  have HS := hid hS
  have HKY := hid hk
  clear hS hk
  go_enter Tryd.func49, Tryd.ntmps49
  go_wp2_with fail
  go_loopw [9] (fun i wr => ∃ (k : Nat), k ≤ L.length ∧ i = .int .i64 (k : Int) ∧ Hid (leadsZ key (L.drop k) = leadsZ key L) ∧ Hid (Below w.heap.size w wr)) (fun i _ => L.length - (intOf i).toNat)
  case atStart => exact ⟨0, by omega, rfl, hid rfl, hid (Below.refl _ _)⟩
  case round =>
    obtain ⟨k, hk, rfl, HR, HB⟩ := hrel
    by_cases hlt : k < L.length
    · have hki : (k : Int) < (L.length : Int) := by omega
      have hk0 : (0 : Int) ≤ (k : Int) := by omega
      have hs := List.getElem?_eq_getElem hlt
      have hd : L.drop k = L[k] :: L.drop (k + 1) := List.drop_eq_getElem_cons hlt
      rw [hd] at HR
      generalize L[k] = s at *
      obtain ⟨b, off, rfl, hbB, hok, hld⟩ := HS.out.at k s hs
      have hl := hld wr (HB.out.mono hB)
      have HI := hid (isStep hok)
      obtain ⟨x1, x2, x3⟩ := box_step wr s hok (.cells zeroStep 66) rfl
      obtain ⟨hx0, hx1⟩ := boxed_cells x1
      have HX := hid (HB.out.trans (x2.mono HB.out.size))
      clear x1 x2 x3 hld hs hd
      generalize hA : (zc s).toArray = A at *
      clear hA
      have HLo := hid hok.lo
      have HHi := hid hok.hi
      have HK := hid hlt
      obtain ⟨i, sd, ot⟩ := s
      simp only at *
      go_wp2_with (first
        | (refine wpList_load_z rfl 66 (.tmp 11) rfl ⟨b, off + k * 34, none⟩ rfl A hl ?_)
        | (refine wpList_store_row rfl 66 (.tmp 6) (.tmp 12) rfl wr.heap.size A rfl rfl 66 zeroStep (World.alloc_heap_new wr _) HI.out.info HI.out.size HI.out.one ?_
           generalize hw2 : World.setRow _ wr.heap.size A = w2
           replace hx0 : w2.cell? ⟨wr.heap.size, 0, none⟩ = some (.int .i64 i) := by rw [← hw2]; exact hx0
           replace hx1 : w2.cell? ⟨wr.heap.size, 1, none⟩ = some (.bool sd) := by rw [← hw2]; exact hx1
           replace HX : Hid (Below w.heap.size w w2) := hid (by rw [← hw2]; exact HX.out)
           clear hw2))
      have hbit := fun m => bit_any C (.slice ka key.length kc) key i (w2.drewN m) ((HKY.out.below (HX.out.mono hC)).below (below_drewN _ _ _)) HLo.out HHi.out
      have HX2 : Hid (∀ m, Below w.heap.size w (w2.drewN m)) := hid (fun m => HX.out.trans (below_drewN _ _ m))
      clear hl HI
      cases hq : (sd == bitI key i) with
      | true =>
        have HR2 : Hid (leadsZ key (L.drop (k + 1)) = leadsZ key L) := hid (by rw [← HR.out]; simp only [leadsZ, List.all_cons, hq, Bool.true_and])
        have e : bitI key i = sd := (by simpa using hq : sd = bitI key i).symm
        rw [e] at hbit
        clear HR hq e
        have hsd : (sd != sd) = false := by simp
        have hsd2 : (sd == sd) = true := by simp
        go_quiet ((go_at_call 80; exact Calls.quiet_of_same (hbit _)))
        go_wp2
        go_roundw
        case rel => exact ⟨k + 1, HK.out, by go_num, HR2, hid (HX2.out _)⟩
        case measure => have := HK.out; simp [intOf]; omega
      | false =>
        have HF : Hid (leadsZ key L = false) := hid (by rw [← HR.out]; simp only [leadsZ, List.all_cons, hq, Bool.false_and])
        have e : bitI key i = !sd := by cases sd <;> cases h : bitI key i <;> simp_all
        rw [e] at hbit
        clear HR hq e
        have hsd2 : (sd == !sd) = false := by cases sd <;> rfl
        go_quiet ((go_at_call 80; exact Calls.quiet_of_same (hbit _)))
        go_wp2
        go_ret
        exact ⟨by rw [HF.out]; rfl, HX2.out _⟩
    · have hki : (L.length : Int) ≤ (k : Int) := by omega
      have HF : Hid (leadsZ key L = true) := hid (by rw [← HR.out, List.drop_eq_nil_of_le (by omega)]; rfl)
      clear HR
      go_wp2
      go_ret
      exact ⟨by rw [HF.out]; rfl, HB.out⟩

/-- A proof in a box. -/
theorem box_proof (w : World) (p : Prf) (kv vv sv : Value) (W : World) (hW : w.alloc (.cells #[.bool p.no, kv, vv, sv] 29) = W) : W.heap[w.heap.size]? = some (.cells #[.bool p.no, kv, vv, sv] 29 (0, 0)) ∧ Below w.heap.size w W ∧ W.heap.size = w.heap.size + 1 := by
  subst hW
  exact ⟨World.alloc_heap_new _ _, (Below.refl _ _).alloc (Nat.le_refl _) _, World.size_alloc _ _⟩

theorem proof_cells {w : World} {g : Nat} {u0 u1 u2 u3 : Value} (h : w.heap[g]? = some (.cells #[u0, u1, u2, u3] 29 (0, 0))) : w.cell? ⟨g, 0, none⟩ = some u0 ∧ w.cell? ⟨g, 1, none⟩ = some u1 ∧ w.cell? ⟨g, 2, none⟩ = some u2 ∧ w.cell? ⟨g, 3, none⟩ = some u3 := by
  refine ⟨?_, ?_, ?_, ?_⟩ <;> (rw [cell_of_row _ _ _ _ _ _ h]; rfl)

set_option maxHeartbeats 4000000 in
theorem may_any (B : Nat) (p : Prf) (kv vv sv : Value) (w : World) (hB : B ≤ w.heap.size) (hp : PAt B w p kv vv sv) :
    Calls Tryd.prog 44 #[.agg #[.bool p.no, kv, vv, sv]] w fun r w' => r = .returned (.bool p.may) ∧ Below w.heap.size w w' := by
  obtain ⟨ka, kc, rfl, hk1, hk2, _⟩ := id hp.hk
  obtain ⟨va, vc, rfl, hv1, hv2, _⟩ := id hp.hv
  obtain ⟨sa, sc, rfl, hs1, hs2⟩ := hp.hs.form
  unfold maxLen at hk2 hv2 hs2
  have HX2 : Hid (Below w.heap.size w (w.alloc (.cells #[.bool p.no, .slice ka p.k.length kc, .slice va p.v.length vc, .slice sa p.st.length sc] 29))) := hid ((Below.refl _ _).alloc (Nat.le_refl _) _)
  have HP := hid (hp.below (HX2.out.mono hB))
  have hBW : B ≤ (w.alloc (.cells #[.bool p.no, .slice ka p.k.length kc, .slice va p.v.length vc, .slice sa p.st.length sc] 29)).heap.size := Nat.le_trans hB HX2.out.size
  clear hp
  obtain ⟨no, k, v, st⟩ := p
  simp only at *
  cases no with
  | true =>
    have HM : Hid ((Prf.mk true k v st).may = decide (k.length = 0 ∧ v.length = 0 ∧ st.length = 0)) := hid rfl
    generalize (Prf.mk true k v st).may = M at *
    clear HP
    by_cases h1 : k.length = 0
    · by_cases h2 : v.length = 0
      · by_cases h3 : st.length = 0
        · go_enter Tryd.func44, Tryd.ntmps44
          go_wp2
          go_ret
          exact ⟨by rw [HM.out]; simp [h1, h2, h3], (Below.refl _ _).alloc (Nat.le_refl _) _⟩
        · have h3' : ¬ ((st.length : Int) == 0) = true := by simpa using h3
          go_enter Tryd.func44, Tryd.ntmps44
          go_wp2
          go_ret
          exact ⟨by rw [HM.out]; simp [h1, h2, h3], (Below.refl _ _).alloc (Nat.le_refl _) _⟩
      · have h2' : ¬ ((v.length : Int) == 0) = true := by simpa using h2
        go_enter Tryd.func44, Tryd.ntmps44
        go_wp2
        go_ret
        exact ⟨by rw [HM.out]; simp [h1, h2], (Below.refl _ _).alloc (Nat.le_refl _) _⟩
    · have h1' : ¬ ((k.length : Int) == 0) = true := by simpa using h1
      go_enter Tryd.func44, Tryd.ntmps44
      go_wp2
      go_ret
      exact ⟨by rw [HM.out]; simp [h1], HX2.out⟩
  | false =>
    have HM : Hid ((Prf.mk false k v st).may = (decide (k.length ≤ 120) && (decide (v.length ≤ 1200) && (risesZ (9 * k.length + 1) 0 st && leadsZ k st)))) := hid rfl
    generalize (Prf.mk false k v st).may = M at *
    by_cases h1 : k.length ≤ 120
    · by_cases h2 : v.length ≤ 1200
      · have HR := rise_any B _ st (9 * (k.length : Int) + 1) _ hBW HP.out.hs (by omega)
        cases hr : risesZ (9 * (k.length : Int) + 1) 0 st with
        | true =>
          rw [hr] at HR
          have HBX := hid HX2.out
          go_enter Tryd.func44, Tryd.ntmps44
          go_wp2_with (first
            | (go_at_call 77; refine HR.mono ?_; clear HR; rintro e w2 ⟨rfl, hb2⟩
               have c1 : w2.cell? ⟨w.heap.size, 1, none⟩ = some (.slice ka k.length kc) := (hb2.cell (p := ⟨w.heap.size, 1, none⟩) (by rw [World.size_alloc]; exact Nat.lt_succ_self _)).trans (by rw [cell_of_row _ _ _ _ _ _ (World.alloc_heap_new w _)]; rfl)
               have c3 : w2.cell? ⟨w.heap.size, 3, none⟩ = some (.slice sa st.length sc) := (hb2.cell (p := ⟨w.heap.size, 3, none⟩) (by rw [World.size_alloc]; exact Nat.lt_succ_self _)).trans (by rw [cell_of_row _ _ _ _ _ _ (World.alloc_heap_new w _)]; rfl)
               have HB2 := hid (HBX.out.trans (hb2.mono HBX.out.size))
               have HL := lead_any B B _ _ st k w2 (Nat.le_trans hBW hb2.size) (Nat.le_trans hBW hb2.size) (HP.out.hs.below (hb2.mono hBW)) (HP.out.hk.below (hb2.mono hBW))
               clear hb2)
            | (go_at_call 49; refine HL.mono ?_; clear HL; rintro e w3 ⟨rfl, hb3⟩))
          go_ret
          exact ⟨by rw [HM.out]; simp [h1, h2, hr], HB2.out.trans (hb3.mono HB2.out.size)⟩
        | false =>
          rw [hr] at HR
          go_enter Tryd.func44, Tryd.ntmps44
          go_wp2_with (first
            | (go_at_call 77; refine HR.mono ?_; clear HR; rintro e w2 ⟨rfl, hb2⟩))
          go_ret
          exact ⟨by rw [HM.out]; simp [hr], HX2.out.trans (hb2.mono HX2.out.size)⟩
      · have h2' : (1200 : Int) < (v.length : Int) := by omega
        go_enter Tryd.func44, Tryd.ntmps44
        go_wp2
        go_ret
        exact ⟨by rw [HM.out]; simp [h2], HX2.out⟩
    · have h1' : (120 : Int) < (k.length : Int) := by omega
      go_enter Tryd.func44, Tryd.ntmps44
      go_wp2
      go_ret
      exact ⟨by rw [HM.out]; simp [h1], HX2.out⟩
end Go.Proofs.YtmafaioohiaenaaDoor
