/- The law DigestHexes, walked. -/
import Derived.Test.YtomfhihhhfelfaaDoorRefHexD
import Derived.Test.YtomfhihhhfelfaaDoorBackD
import Derived.Test.YtomfhihhhfelfaaDoorPartsD
namespace Go.Proofs.YtomfhihhhfelfaaDoor
open Go.RowKit
open Go.BigFrame (wpQuiet_want wpQuiet_skip)
set_option linter.unusedVariables false

theorem range_keep {w w' : World} {g : Nat} {cs : List Value} (h : w.rangeAt g 0 cs) (hb : Below w.heap.size w w') : w'.rangeAt g 0 cs := fun j v hv => by
  have h1 := h j v hv
  rw [hb.cell (p := ⟨g, 0 + j, none⟩) (World.block_lt_of_cell? w _ h1)]
  exact h1

def ThreeAt (g1 g2 g3 : Nat) (a b : List Value) (w : World) : Prop := w.rangeAt g1 0 a ∧ w.rangeAt g2 0 b ∧ w.rangeAt g3 0 b

theorem three_keep {g1 g2 g3 : Nat} {a b : List Value} {w w' : World} (h : w.rangeAt g1 0 a ∧ w.rangeAt g2 0 b ∧ w.rangeAt g3 0 b) (hb : Below w.heap.size w w') : w'.rangeAt g1 0 a ∧ w'.rangeAt g2 0 b ∧ w'.rangeAt g3 0 b :=
  ⟨range_keep h.1 hb, range_keep h.2.1 hb, range_keep h.2.2 hb⟩

/-- The worlds that the law's last statement passes through. -/
structure HexC (g1 g2 g3 B : Nat) (w0 : World) (a b : Array Value) (w : World) : Prop where
  r1 : w.heap[g1]? = some (.cells a 26 (0, 0))
  r2 : w.heap[g2]? = some (.cells b 26 (0, 0))
  r3 : w.heap[g3]? = some (.cells b 26 (0, 0))
  bel : Below B w0 w

theorem HexC.below {g1 g2 g3 B : Nat} {w0 : World} {a b : Array Value} {w w' : World} (h : HexC g1 g2 g3 B w0 a b w) (hB : B ≤ w0.heap.size) (hb : Below w.heap.size w w') : HexC g1 g2 g3 B w0 a b w' :=
  ⟨(hb.block _ (block_lt h.r1)).trans h.r1, (hb.block _ (block_lt h.r2)).trans h.r2, (hb.block _ (block_lt h.r3)).trans h.r3, h.bel.trans (hb.mono (Nat.le_trans hB h.bel.size))⟩

theorem quiet_load {P : Program} {C : World → Prop} {o : Oper} {a : Act} {K : Act → Prop} (ty : TypeId) (x : Operand) (ho : o.op = .load ty x) (g : Nat) (hx : a.eval x = .pointer (some ⟨g, 0, none⟩)) (t : TypeId) (cs : Array Value) (n : Nat) (e : TypeId)
    (hg : ∀ W, C W → W.heap[g]? = some (.cells cs t (0, 0))) (hu : P.underlying ty = some (.array n e)) (hi : (P.info? ty).map (·.size) = some cs.size) (hk : K (a.put o.dst (.agg cs))) : o.quiet P a C K := by
  refine ⟨.agg cs, fun W hW => ?_, hk⟩
  unfold Oper.quietAt execOp
  simp only [ho, hx, Instr.loadAt, Instr.sureAddr, Sem.run_bind, Sem.run_pure, Result.andThen_ok, run_loadVar_row W g t ty cs (0, 0) (.array n e) (hg W hW) hu rfl hi]
  exact ⟨rfl, rfl⟩

set_option maxRecDepth 100000 in
set_option maxHeartbeats 16000000 in
theorem hexes_law (bs : List UInt8) (s : ByteArray) (w : World) (hl : bs.length = 32) (hs : s.size ≤ 140737488351232) (ht : Tables w) :
    Calls Tryd.prog 5 #[.agg (bs.map by8).toArray, .string s] w fun e w' => e = .returned (.bool true) ∧ Below w.heap.size w w' := by
  have hw1 := ht.lt
  have HF := hid (sum_facts bs hl)
  have HB0 : Hid (Below w.heap.size w (w.alloc (.cells (bs.map by8).toArray 26))) := hid ((Below.refl _ _).alloc (Nat.le_refl _) _)
  have HN0 := hid (heap_alloc_new w (.cells (bs.map by8).toArray 26))
  have HS0 : Hid ((w.alloc (.cells (bs.map by8).toArray 26)).heap.size = w.heap.size + 1) := hid (by simp)
  have HHX := hid (fun W => hex_any bs W hl)
  have HRX := hid (fun W => refHex_any bs W hl)
  have HUX := hid (fun W => unhex_any s W (by unfold maxLen; omega))
  have HVX := hid (fun W => refUnhex_any s W (by unfold maxLen; omega))
  have HUL := hid (unhexOf_length s.data.toList)
  have HAL : Hid ((bs.map by8).length = 32) := hid (by simpa using hl)
  have HAO := hid (by8_one bs)
  generalize unhexOf s.data.toList = U at *
  have HUS := hid (sum_facts U.2 HUL.out)
  have HUE := hid (eql_sum U.2 HUL.out)
  have HBL : Hid ((U.2.map by8).length = 32) := hid (by simpa using HUL.out)
  have HBO := hid (by8_one U.2)
  have HI : Hid ((Tryd.prog.info? 26).map (·.size) = some 32) := hid Tryd.infoSum
  generalize bs.map by8 = csA at *
  generalize U.2.map by8 = csU at *
  generalize hexOf bs = hx at *
  generalize U.1 = ue at *
  go_enter Tryd.func5, Tryd.ntmps5
  go_wp2_with fail
  refine (small_any _ (ht.below HB0.out (by omega))).mono ?_
  rintro e w1 ⟨rfl, hb1⟩
  have HN1 := hid ((hb1.block _ (by rw [HS0.out]; omega)).trans HN0.out)
  have hbel1 := HB0.out.trans (hb1.mono (by rw [HS0.out]; omega))
  clear hb1
  go_wp2_with fail
  refine (HUX.out w1).mono ?_
  rintro e w2 ⟨rfl, hb2⟩
  have HN2 := hid ((hb2.block _ (block_lt HN1.out)).trans HN1.out)
  have hbel2 := hbel1.trans (hb2.mono hbel1.size)
  clear hb2 hbel1
  obtain ⟨r1, r2, r3⟩ := new_row w2 csU.toArray
  have HR1 := hid r1
  have HR2 := hid r2
  have HR3 := hid r3
  clear r1 r2 r3
  go_wp2_with (refine wpList_store_row rfl 26 (.tmp 6) (.tmp 14) rfl w2.heap.size csU.toArray rfl rfl 26 zero32 (heap_alloc_new w2 _) HUS.out.1 HUS.out.2.2 HUS.out.2.1 ?_)
  refine (HVX.out _).mono ?_
  rintro e w4 ⟨rfl, hb4⟩
  replace hb4 : Below (w2.heap.size + 1) ((w2.alloc (.cells zero32 26)).setRow w2.heap.size csU.toArray) w4 := by rw [← HR3.out]; exact hb4
  have hw2 := block_lt HN2.out
  have HN4 := hid ((hb4.block _ (by omega)).trans ((HR2.out.block _ hw2).trans HN2.out))
  have HM4 := hid ((hb4.block _ (by omega)).trans HR1.out)
  have hbel4 : Below w.heap.size w w4 := hbel2.trans ((HR2.out.trans (hb4.mono (by omega))).mono hbel2.size)
  clear hb4 HR1 HR2 HR3 hbel2
  obtain ⟨r1, r2, r3⟩ := new_row w4 csU.toArray
  have HR1 := hid r1
  have HR2 := hid r2
  have HR3 := hid r3
  clear r1 r2 r3
  go_wp2_with (refine wpList_store_row rfl 26 (.tmp 8) (.tmp 19) rfl w4.heap.size csU.toArray rfl rfl 26 zero32 (heap_alloc_new w4 _) HUS.out.1 HUS.out.2.2 HUS.out.2.1 ?_)
  generalize hw5 : World.setRow _ w4.heap.size csU.toArray = w5
  have r1 : w5.heap[w4.heap.size]? = some (.cells csU.toArray 26 (0, 0)) := by rw [← hw5]; exact HR1.out
  have r2 : Below w4.heap.size w4 w5 := by rw [← hw5]; exact HR2.out
  clear hw5 HR1 HR2 HR3
  have hC0 : HexC w.heap.size w2.heap.size w4.heap.size w.heap.size w csA.toArray csU.toArray w5.drew := ⟨(r2.block _ (block_lt HN4.out)).trans HN4.out, (r2.block _ (block_lt HM4.out)).trans HM4.out, r1, (hbel4.trans (r2.mono hbel4.size)).drew⟩
  have HC0 := hid hC0
  have HFA := hid HF.out.1
  have HFU := hid HUS.out.1
  have hEQ := HUE.out
  have hss : ((str8 hx).toList == (str8 hx).toList) = true := by simp
  clear r1 r2 hbel4 hC0 HN4 HM4 HN2 HN1 HN0
  refine wp_region_quiet (C := HexC w.heap.size w2.heap.size w4.heap.size w.heap.size w csA.toArray csU.toArray) (by kernel_rfl) (by kernel_rfl) HC0.out ?_
  dsimp only
  go_big_quiet_step ((intro _; rfl))
  go_big_quiet_step ((intro _; rfl))
  go_big_quiet_want
  refine quiet_load 26 (.tmp 2) rfl w.heap.size rfl 26 csA.toArray _ _ (fun W hW => hW.r1) Tryd.underlying26 HFA.out ?_
  simp only [Act.put, List.setIfInBounds_toArray, List.set_cons_zero, List.set_cons_succ]
  go_big_quiet_on
  go_big_quiet_want
  go_big_quiet_op
  refine ⟨_, fun W hW => (HHX.out W).mono (fun e w'' ⟨he, hb⟩ => ⟨he, hW.below (Nat.le_refl _) hb⟩), ?_⟩
  go_big_quiet_on
  go_big_quiet_want
  refine quiet_load 26 (.tmp 2) rfl w.heap.size rfl 26 csA.toArray _ _ (fun W hW => hW.r1) Tryd.underlying26 HFA.out ?_
  simp only [Act.put, List.setIfInBounds_toArray, List.set_cons_zero, List.set_cons_succ]
  go_big_quiet_on
  go_big_quiet_want
  go_big_quiet_op
  refine ⟨_, fun W hW => (HRX.out W).mono (fun e w'' ⟨he, hb⟩ => ⟨he, hW.below (Nat.le_refl _) hb⟩), ?_⟩
  go_big_quiet_on
  go_big_quiet_step ((intro _; rfl))
  go_big_quiet_step ((intro _; rfl))
  go_big_quiet_step ((intro _; rfl))
  go_big_quiet_want
  refine quiet_load 26 (.tmp 6) rfl w2.heap.size rfl 26 csU.toArray _ _ (fun W hW => hW.r2) Tryd.underlying26 HFU.out ?_
  simp only [Act.put, List.setIfInBounds_toArray, List.set_cons_zero, List.set_cons_succ]
  go_big_quiet_on
  go_big_quiet_want
  refine quiet_load 26 (.tmp 8) rfl w4.heap.size rfl 26 csU.toArray _ _ (fun W hW => hW.r3) Tryd.underlying26 HFU.out ?_
  simp only [Act.put, List.setIfInBounds_toArray, List.set_cons_zero, List.set_cons_succ]
  go_big_quiet_on
  repeat go_big_quiet_step ((intro _; rfl))
  refine wpQuiet_nil ?_
  intro W hW
  have hbW := hW.bel
  clear hW
  go_wp2
  go_ret
  exact ⟨rfl, hbW⟩
end Go.Proofs.YtomfhihhhfelfaaDoor
