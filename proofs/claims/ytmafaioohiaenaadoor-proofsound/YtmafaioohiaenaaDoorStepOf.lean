/- Contract of proof.stepOf. -/
import Derived.Test.YtmafaioohiaenaaDoorBytesF
import Derived.Great.BuildSlice
import Derived.Laws.CopyRow
namespace Go.Proofs.YtmafaioohiaenaaDoor
open Go.RowKit Go.Shelf
set_option linter.unusedVariables false
set_option linter.unusedSimpArgs false
set_option maxRecDepth 20000

/-- The step whose bytes these are. -/
def stepOfZ (b : List UInt8) : Option Zst := if b.length = 41 ∧ (b[8]?.getD 0).toNat ≤ 1 then some ((tnum b 0).1, decide ((b[8]?.getD 0).toNat = 1), b.drop 9) else none

theorem built_step0 (p : Int) (b : Bool) : Tryd.prog.built 66 [(0, .int .i64 p), (1, .bool b)] = some (zc (p, b, List.replicate 32 0)).toArray := by kernel_rfl

theorem built_stepZ : Tryd.prog.built 66 [] = some zeroStep := by kernel_rfl

theorem zeroStep_zc : zeroStep = (zc (0, false, List.replicate 32 0)).toArray := rfl

theorem zok_zero (p : Int) (b : Bool) (h1 : -9223372036854775808 ≤ p) (h2 : p ≤ 9223372036854775807) : ZOk (p, b, List.replicate 32 0) := ⟨by simp, h1, h2⟩

theorem tnum_range (b : List UInt8) : -9223372036854775808 ≤ (tnum b 0).1 ∧ (tnum b 0).1 ≤ 9223372036854775807 := by
  unfold tnum
  split
  · simp
  · simp only [i64of, wrap64_eq]
    omega

theorem stepOfZ_ok (b : List UInt8) (s : Zst) (h : stepOfZ b = some s) : ZOk s := by
  unfold stepOfZ at h
  split at h
  · rename_i hb
    cases h
    obtain ⟨h1, h2⟩ := tnum_range b
    exact ⟨by simp [hb.1], h1, h2⟩
  · cases h

theorem results_agg_tmp {fn : Func} {p u : Tmp} {ty : TypeId} (h : fn.results = #[.cell p ty, .tmp u]) (tmps : Array Value) (w : World) (g : Nat) (cs : Array Value)
    (hp : tmps.getD p undef = .pointer (some ⟨g, 0, none⟩)) (hr : (loadVar ty ⟨g, 0, none⟩).run Tryd.prog w = .ok (.agg cs) w) :
    (results fn tmps).run Tryd.prog w = .ok (.tuple #[.agg cs, tmps.getD u undef]) w := by
  rw [results_cell_tmp h, hp]
  simp [asAddr, Result.andThen, hr]

theorem load_row_step {w : World} {g : Nat} {A : Array Value} (hg : w.heap[g]? = some (.cells A 66 (0, 0))) (hi : (Tryd.prog.info? 66).map (·.size) = some A.size) : (loadVar 66 ⟨g, 0, none⟩).run Tryd.prog w = .ok (.agg A) w :=
  run_loadVar_row (P := Tryd.prog) w g 66 66 A (0, 0) _ hg Tryd.underlying66 rfl hi

set_option maxHeartbeats 4000000 in
theorem stepOf_no (B : Nat) (v : Value) (b : List UInt8) (w : World) (hB : B ≤ w.heap.size) (hsh : Shows B w v b) (h : stepOfZ b = none) :
    Calls Tryd.prog 85 #[v] w fun e w' => e = .returned (.tuple #[.agg zeroStep, .bool false]) ∧ Below w.heap.size w w' := by
  obtain ⟨a, c, rfl, g1, g2, gn, g3⟩ := id hsh
  unfold maxLen at g2
  have hnew := World.alloc_heap_new w (.cells zeroStep 66)
  have hbn : Below w.heap.size w (w.alloc (.cells zeroStep 66)) := (Below.refl _ _).alloc (Nat.le_refl _) _
  have HT := takeNum_any B (.slice a b.length c) b (w.alloc (.cells zeroStep 66)) (hsh.below (hbn.mono hB))
  have HI := hid (isStep (zok_zero 0 false (by decide) (by decide)))
  rw [← zeroStep_zc] at HI
  have HN := hid hnew
  have HB := hid hbn
  by_cases h8 : b.length < 8
  · rw [show tnum b 0 = (0, 0, 3) by simp [tnum, h8]] at HT
    clear hnew hbn hsh g3 h
    go_enter Tryd.func85, Tryd.ntmps85
    go_wp2_with fail
    refine HT.mono ?_
    clear HT
    rintro e w2 ⟨rfl, hw2⟩
    have H2 : Hid (w2.heap[w.heap.size]? = some (.cells zeroStep 66 (0, 0))) := hid (by rw [hw2]; exact HN.out)
    have HB2 : Hid (Below w.heap.size w w2) := hid (by rw [hw2]; exact HB.out)
    clear hw2
    go_wp2_with (first
      | (refine wpList_buildTo rfl 66 #[] rfl (some 31) rfl zeroStep (by exact built_stepZ) ?_)
      | (refine wpList_store_row rfl 66 (.tmp 2) (.tmp 31) rfl w.heap.size zeroStep rfl rfl 66 zeroStep H2.out HI.out.info HI.out.size HI.out.one ?_)
      | (refine bodyPost_ret (v := .tuple #[.agg zeroStep, .bool false]) (results_agg_tmp (p := 2) (u := 3) (ty := 66) rfl _ _ w.heap.size zeroStep rfl (load_row_step (setRow_heap _ _ _ _ _ _ H2.out) HI.out.info)) rfl ⟨rfl, below_setRow HB2.out (Nat.le_refl _) _⟩))
  · obtain ⟨n, m, hnm⟩ : ∃ n m, tnum b 0 = (n, m) := ⟨_, _, rfl⟩
    have hm : m = (8, 0) := by
      have : tnum b 0 = (i64of (num (b.take 8) + 0), 8, 0) := by simp [tnum, h8]
      rw [this] at hnm
      exact (Prod.mk.inj hnm).2.symm
    subst hm
    rw [hnm] at HT
    have HBL := hid hsh
    have h41 : ((8 : Int) + 1 + 32) = 41 := rfl
    by_cases hl : b.length = 41
    · have hb9 : ¬ (b[8]?.getD 0).toNat ≤ 1 := fun hle => by unfold stepOfZ at h; rw [if_pos ⟨hl, hle⟩] at h; cases h
      obtain ⟨bb, off, rfl, hbb, hc⟩ := g3 (by intro e; rw [e] at hl; cases hl)
      have hc8 := (hbn.cell (p := ⟨bb, off + 8, none⟩) (by show bb < _; omega)).trans (hc 8 (by omega))
      generalize (b[8]?.getD 0).toNat = q at *
      have hq : (1 : Int) < (q : Int) := by omega
      rw [hl]
      rw [hl] at HT g1
      clear hnew hbn hsh g3 h hc hl HBL
      go_enter Tryd.func85, Tryd.ntmps85
      go_wp2_with fail
      refine HT.mono ?_
      clear HT
      rintro e w2 ⟨rfl, hw2⟩
      have H2 : Hid (w2.heap[w.heap.size]? = some (.cells zeroStep 66 (0, 0))) := hid (by rw [hw2]; exact HN.out)
      have HB2 : Hid (Below w.heap.size w w2) := hid (by rw [hw2]; exact HB.out)
      replace hc8 : w2.cell? ⟨bb, off + 8, none⟩ = some (.int .u8 (q : Int)) := by rw [hw2]; exact hc8
      clear hw2
      go_wp2_with (first
        | (refine wpList_buildTo rfl 66 #[] rfl (some 31) rfl zeroStep (by exact built_stepZ) ?_)
        | (refine wpList_store_row rfl 66 (.tmp 2) (.tmp 31) rfl w.heap.size zeroStep rfl rfl 66 zeroStep H2.out HI.out.info HI.out.size HI.out.one ?_)
        | (refine bodyPost_ret (v := .tuple #[.agg zeroStep, .bool false]) (results_agg_tmp (p := 2) (u := 3) (ty := 66) rfl _ _ w.heap.size zeroStep rfl (load_row_step (setRow_heap _ _ _ _ _ _ H2.out) HI.out.info)) rfl ⟨rfl, below_setRow HB2.out (Nat.le_refl _) _⟩))
    · have hl' : ¬ ((b.length : Int) == 41) = true := by simpa using (by omega : ¬ (b.length : Int) = 41)
      clear hnew hbn hsh g3 h HBL
      go_enter Tryd.func85, Tryd.ntmps85
      go_wp2_with fail
      refine HT.mono ?_
      clear HT
      rintro e w2 ⟨rfl, hw2⟩
      have H2 : Hid (w2.heap[w.heap.size]? = some (.cells zeroStep 66 (0, 0))) := hid (by rw [hw2]; exact HN.out)
      have HB2 : Hid (Below w.heap.size w w2) := hid (by rw [hw2]; exact HB.out)
      clear hw2
      go_wp2_with (first
        | (refine wpList_buildTo rfl 66 #[] rfl (some 31) rfl zeroStep (by exact built_stepZ) ?_)
        | (refine wpList_store_row rfl 66 (.tmp 2) (.tmp 31) rfl w.heap.size zeroStep rfl rfl 66 zeroStep H2.out HI.out.info HI.out.size HI.out.one ?_)
        | (refine bodyPost_ret (v := .tuple #[.agg zeroStep, .bool false]) (results_agg_tmp (p := 2) (u := 3) (ty := 66) rfl _ _ w.heap.size zeroStep rfl (load_row_step (setRow_heap _ _ _ _ _ _ H2.out) HI.out.info)) rfl ⟨rfl, below_setRow HB2.out (Nat.le_refl _) _⟩))

set_option maxHeartbeats 4000000 in
theorem stepOf_on (B : Nat) (v : Value) (b : List UInt8) (s : Zst) (w : World) (hB : B ≤ w.heap.size) (hsh : Shows B w v b) (h : stepOfZ b = some s) :
    Calls Tryd.prog 85 #[v] w fun e w' => e = .returned (.tuple #[.agg (zc s).toArray, .bool true]) ∧ Below w.heap.size w w' := by
  obtain ⟨a, c, rfl, g1, g2, gn, g3⟩ := id hsh
  unfold maxLen at g2
  have hok := stepOfZ_ok b s h
  unfold stepOfZ at h
  split at h
  · rename_i hb
    obtain ⟨hl, hq1⟩ := hb
    have hnew := World.alloc_heap_new w (.cells zeroStep 66)
    have hbn : Below w.heap.size w (w.alloc (.cells zeroStep 66)) := (Below.refl _ _).alloc (Nat.le_refl _) _
    have HT := takeNum_any B (.slice a b.length c) b (w.alloc (.cells zeroStep 66)) (hsh.below (hbn.mono hB))
    obtain ⟨n, m, hnm⟩ : ∃ n m, tnum b 0 = (n, m) := ⟨_, _, rfl⟩
    have hm : m = (8, 0) := by
      have : tnum b 0 = (i64of (num (b.take 8) + 0), 8, 0) := by simp [tnum, hl]
      rw [this] at hnm
      exact (Prod.mk.inj hnm).2.symm
    subst hm
    have hrg := tnum_range b
    rw [hnm] at HT h hrg
    obtain ⟨bb, off, rfl, hbb, hc⟩ := g3 (by intro e; rw [e] at hl; cases hl)
    have hc8 := hc 8 (by omega)
    have hd9 : Shows B w (.slice (some ⟨bb, off + 9, none⟩) (b.length - 9) (c - 9)) (b.drop 9) := hsh.drop 9 (by omega)
    have hdl : (b.drop 9).length = 32 := by simp [hl]
    generalize (b[8]?.getD 0).toNat = q at *
    generalize b.drop 9 = dd at *
    cases h
    rw [hl] at HT g1 hd9 ⊢
    simp only [show 41 - 9 = 32 from rfl] at hd9
    have hq : ¬ ((1 : Int) < (q : Int)) := by omega
    have hqd : ((q : Int) == 1) = decide (q = 1) := by
      rcases Nat.lt_or_ge q 1 with h | h
      · have : q = 0 := by omega
        subst this; rfl
      · have : q = 1 := by omega
        subst this; rfl
    have HZ1 := hid (zok_zero n (decide (q = 1)) hrg.1 hrg.2)
    have HI1 := hid (isStep HZ1.out)
    have HI2 := hid (isStep hok)
    have HN := hid hnew
    have HB := hid hbn
    have HD9 := hid hd9
    clear hnew hbn hsh g3 hc hl hd9
    go_enter Tryd.func85, Tryd.ntmps85
    go_wp2_with fail
    refine HT.mono ?_
    clear HT
    rintro e w2 ⟨rfl, hw2⟩
    have H2 : Hid (w2.heap[w.heap.size]? = some (.cells zeroStep 66 (0, 0))) := hid (by rw [hw2]; exact HN.out)
    have HB2 : Hid (Below w.heap.size w w2) := hid (by rw [hw2]; exact HB.out)
    replace hc8 : w2.cell? ⟨bb, off + 8, none⟩ = some (.int .u8 (q : Int)) := (HB2.out.cell (p := ⟨bb, off + 8, none⟩) (by show bb < _; omega)).trans hc8
    clear hw2
    have hq' : (q : Int) ≤ 1 := by omega
    go_wp2_with (first
      | (refine wpList_buildTo rfl 66 _ rfl (some 38) rfl (zc (n, decide (q = 1), List.replicate 32 0)).toArray (by exact built_step0 n (decide (q = 1))) ?_)
      | (refine wpList_store_row rfl 66 (.tmp 7) (.tmp 38) rfl w2.heap.size (zc (n, decide (q = 1), List.replicate 32 0)).toArray rfl rfl 66 zeroStep (World.alloc_heap_new w2 _) HI1.out.info HI1.out.size HI1.out.one ?_
         generalize hw3 : World.setRow _ w2.heap.size (zc (n, decide (q = 1), List.replicate 32 0)).toArray = w3
         have hbs := box_step w2 (n, decide (q = 1), List.replicate 32 0) HZ1.out (.cells zeroStep 66) rfl
         have H3 : Hid (w3.heap[w2.heap.size]? = some (.cells (zc (n, decide (q = 1), List.replicate 32 0)).toArray 66 (0, 0))) := hid (by rw [← hw3]; exact hbs.1)
         have HB3 : Hid (Below w2.heap.size w2 w3) := hid (by rw [← hw3]; exact hbs.2.1)
         clear hw3 hbs))
    simp only [Act.put]
    have hinfo : (Tryd.prog.info? 5).map (·.size) = some 1 := by kernel_rfl
    have hsrc := (by8_cells (HD9.out.below ((HB2.out.trans (HB3.out.mono HB2.out.size)).drew.mono hB))).2
    have hcp := run_copy_row (P := Tryd.prog) w3.drew 24 24 3 5 w2.heap.size 2 32 32 ⟨bb, off + 9, none⟩ 32 (c - 9) (zc (n, decide (q = 1), List.replicate 32 0)).toArray 66 (dd.map by8) Tryd.underlying24 hinfo H3.out (by rw [List.length_map, hdl]; rfl) hsrc (by simp [zc, hdl]) (by8_one dd)
    have hrow : ((zc (n, decide (q = 1), List.replicate 32 0)).toArray.toList.take 2 ++ dd.map by8 ++ (zc (n, decide (q = 1), List.replicate 32 0)).toArray.toList.drop (2 + (dd.map by8).length)).toArray = (zc (n, decide (q = 1), dd)).toArray := by
      rw [List.length_map, hdl, List.drop_of_length_le (by simp [zc])]
      simp [zc]
    rw [hrow, List.length_map, hdl] at hcp
    have HG := hid (setRow_heap w3.drew w2.heap.size _ (zc (n, decide (q = 1), dd)).toArray _ _ H3.out)
    have HSP := hid (spares_setRowZ w3.drew w2.heap.size (zc (n, decide (q = 1), dd)).toArray)
    generalize w3.drew.setRow w2.heap.size (zc (n, decide (q = 1), dd)).toArray = w4 at *
    have h9 : ¬ (9 : Int) = (c : Int) := by omega
    have h9' : (9 : Int) ≤ (c : Int) := by omega
    clear hsrc hrow
    go_region
    have hlt2 : w.heap.size < w2.heap.size := block_lt H2.out
    have hz3 : w2.heap.size ≤ w3.heap.size := HB3.out.size
    have H4 : Hid (w4.heap[w.heap.size]? = some (.cells zeroStep 66 (0, 0))) := hid ((HSP.out.block _ (by show _ < w3.heap.size; omega) (by omega)).trans ((HB3.out.block _ hlt2).trans H2.out))
    have HB4 : Hid (Below w.heap.size w w4) := hid ((HB2.out.trans (HB3.out.mono HB2.out.size)).drew.trans (HSP.out.below (fun i hi => by omega) (by show _ ≤ w3.heap.size; omega)))
    obtain ⟨A, hA⟩ : ∃ A, (zc (n, decide (q = 1), dd)).toArray = A := ⟨_, rfl⟩
    rw [hA] at HG HI2
    have HA := hid hA
    clear hA hcp HB3 H3 HSP
    go_wp2_with (first
      | (refine wpList_load_z rfl 66 (.tmp 7) rfl ⟨w2.heap.size, 0, none⟩ rfl A (load_row_step HG.out HI2.out.info) ?_)
      | (refine wpList_store_row rfl 66 (.tmp 2) (.tmp 46) rfl w.heap.size A rfl rfl 66 zeroStep H4.out HI2.out.info HI2.out.size HI2.out.one ?_)
      | (refine bodyPost_ret (v := .tuple #[.agg A, .bool true]) (results_agg_tmp (p := 2) (u := 3) (ty := 66) rfl _ _ w.heap.size A rfl (load_row_step (setRow_heap _ _ _ _ _ _ H4.out) HI2.out.info)) rfl ⟨by rw [HA.out], below_setRow HB4.out (Nat.le_refl _) _⟩))
  · cases h
end Go.Proofs.YtmafaioohiaenaaDoor
