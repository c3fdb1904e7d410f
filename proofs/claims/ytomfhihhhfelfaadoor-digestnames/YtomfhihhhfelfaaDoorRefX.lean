/- Contract of the document's own expand. -/
import Derived.Test.YtomfhihhhfelfaaDoorRefW
namespace Go.Proofs.YtomfhihhhfelfaaDoor
open Go.RowKit
set_option linter.unusedVariables false

set_option maxRecDepth 100000 in
theorem word_bytes (b0 b1 b2 b3 : Nat) (h0 : b0 < 256) (h1 : b1 < 256) (h2 : b2 < 256) (h3 : b3 < 256) :
    ((b0 * 16777216 ||| b1 * 65536) ||| b2 * 256) ||| b3 = b0 * 16777216 + b1 * 65536 + b2 * 256 + b3 := by
  have e1 : b0 * 16777216 ||| b1 * 65536 = b0 * 16777216 + b1 * 65536 := by
    have := Nat.shiftLeft_add_eq_or_of_lt (i := 24) (b := b1 * 65536) (by omega) b0
    rw [Nat.shiftLeft_eq] at this
    exact this.symm
  have e2 : (b0 * 16777216 + b1 * 65536) ||| b2 * 256 = b0 * 16777216 + b1 * 65536 + b2 * 256 := by
    have := Nat.shiftLeft_add_eq_or_of_lt (i := 16) (b := b2 * 256) (by omega) (b0 * 256 + b1)
    rw [Nat.shiftLeft_eq, show (2 : Nat) ^ 16 = 65536 from rfl, show (b0 * 256 + b1) * 65536 = b0 * 16777216 + b1 * 65536 by rw [Nat.add_mul, Nat.mul_assoc]] at this
    exact this.symm
  have e3 : (b0 * 16777216 + b1 * 65536 + b2 * 256) ||| b3 = b0 * 16777216 + b1 * 65536 + b2 * 256 + b3 := by
    have := Nat.shiftLeft_add_eq_or_of_lt (i := 8) (b := b3) (by omega) (b0 * 65536 + b1 * 256 + b2)
    rw [Nat.shiftLeft_eq, show (2 : Nat) ^ 8 = 256 from rfl, show (b0 * 65536 + b1 * 256 + b2) * 256 = b0 * 16777216 + b1 * 65536 + b2 * 256 by rw [Nat.add_mul, Nat.add_mul, Nat.mul_assoc, Nat.mul_assoc]] at this
    exact this.symm
  rw [e1, e2, e3]

theorem off_ne (g a b : Nat) (h : ¬ a = b) : (⟨g, a, none⟩ : Addr) ≠ ⟨g, b, none⟩ := fun e => h (by injection e)

theorem sum4 (a b c d : Nat) (ha : a < 4294967296) (hb : b < 4294967296) (hc : c < 4294967296) (hd : d < 4294967296) :
    (IntKind.i64.wrap (IntKind.i64.wrap (IntKind.i64.wrap ((a : Int) + (b : Int)) + (c : Int)) + (d : Int))).tmod 4294967296 = (((a + b + c + d) % 4294967296 : Nat) : Int) := by
  have fit : ∀ n : Nat, n < 4611686018427387904 → IntKind.i64.wrap (n : Int) = (n : Int) := fun n hn => i64_fit n (by omega) (by simp only [Int.reducePow]; omega)
  rw [show (a : Int) + (b : Int) = ((a + b : Nat) : Int) from by omega, fit _ (by omega), show ((a + b : Nat) : Int) + (c : Int) = ((a + b + c : Nat) : Int) from by omega, fit _ (by omega), show ((a + b + c : Nat) : Int) + (d : Int) = ((a + b + c + d : Nat) : Int) from by omega, fit _ (by omega), Int.tmod_eq_emod_of_nonneg (Int.natCast_nonneg _)]
  omega

set_option maxRecDepth 100000 in
set_option maxHeartbeats 16000000 in
theorem expand_some (b off c : Nat) (bs : List UInt8) (w : World) (hl : bs.length = 64) (hb : b < w.heap.size) (hc : 64 ≤ c) (hcm : c ≤ maxLen)
    (hcell : ∀ j, j < 64 → w.cell? ⟨b, off + j, none⟩ = some (.int .u8 ((bs[j]?.getD 0).toNat : Int))) :
    Calls Tryd.prog 30 #[.slice (some ⟨b, off, none⟩) 64 c] w fun e w' => e = .returned (.slice (some ⟨w.heap.size, 0, none⟩) 64 64) ∧ w'.heap[w.heap.size]? = some (.cells ((sched bs).map iv).toArray 3 (0, 0)) ∧ Below w.heap.size w w' := by
  obtain ⟨i0, hi, hz0, hz1, hz2⟩ := info_parts Tryd.infoInt
  unfold maxLen at hcm
  have hmk : ∀ u : World, (Instr.makeSlice 52 (.int .i64 64) (.int .i64 64)).run Tryd.prog u = .ok (.slice (some ⟨u.heap.size, 0, none⟩) 64 64) (u.alloc (.cells (List.replicate 64 (Value.int .i64 0)).toArray 3)) := fun u => by
    have h := run_make (P := Tryd.prog) u 52 3 i0 (.int .i64 0) Tryd.underlying52 hi hz0 .i64 .i64 64 64 (by omega) (by omega) (by rw [hz2]; decide) (by omega)
    rw [hz1, show (64 : Int).toNat = 64 from rfl, Nat.mul_one] at h
    rw [h]
    congr 3
    exact made_ints _
  have hsl : (sched bs).length = 64 := spread_length bs 48
  have HSL := hid hsl
  have HLT : Hid (∀ j, (sched bs).getD j 0 < 4294967296) := hid (getD_lt (spread_lt bs 48))
  have HLO := hid (sched_low bs)
  have HHI := hid (sched_high bs)
  have hnew := heap_alloc_new w (.cells (List.replicate 64 (Value.int .i64 0)).toArray 3)
  have hbn : Below w.heap.size w (w.alloc (.cells (List.replicate 64 (Value.int .i64 0)).toArray 3)) := (Below.refl _ _).alloc (Nat.le_refl _) _
  have HN : Hid ((w.alloc (.cells (List.replicate 64 (Value.int .i64 0)).toArray 3)).heap[w.heap.size]? = some (.cells ((laidW (sched bs) 0).map iv).toArray 3 (0, 0))) := hid (by rw [hnew]; simp [laidW, iv])
  have HB := hid hbn
  clear hnew hbn hsl
  generalize (List.replicate 64 (Value.int .i64 0)).toArray = Z at *
  generalize sched bs = ws at *
  go_enter Tryd.func30, Tryd.ntmps30
  go_wp2_with fail
  generalize w.alloc _ = w0 at *
  go_loopw [4] (fun i wr => ∃ t : Nat, t ≤ 64 ∧ i = .int .i64 t ∧ Hid (wr.heap[w.heap.size]? = some (.cells ((laidW ws t).map iv).toArray 3 (0, 0))) ∧ Below w.heap.size w wr) (fun i _ => 64 - (intOf i).toNat)
  case atStart => exact ⟨0, Nat.zero_le _, rfl, HN, HB.out⟩
  case round =>
    clear HN HB hmk
    obtain ⟨t, ht, rfl, HR, hbr⟩ := hrel
    by_cases hlt : t < 64
    · have hc0 := (cell_of_row wr _ t _ _ _ HR.out).trans (laidW_zero ws t t HSL.out (Nat.le_refl _) hlt)
      have hfz : wr.frozen? ⟨w.heap.size, t, none⟩ = false := frozen_of_row wr _ _ _ _ HR.out
      by_cases h16 : t < 16
      · have k0 : wr.cell? ⟨b, off + 4 * t, none⟩ = _ := (hbr.cell (p := ⟨b, off + 4 * t, none⟩) hb).trans (hcell (4 * t) (by omega))
        have k1 : wr.cell? ⟨b, off + (4 * t + 1), none⟩ = _ := (hbr.cell (p := ⟨b, off + (4 * t + 1), none⟩) hb).trans (hcell (4 * t + 1) (by omega))
        have k2 : wr.cell? ⟨b, off + (4 * t + 2), none⟩ = _ := (hbr.cell (p := ⟨b, off + (4 * t + 2), none⟩) hb).trans (hcell (4 * t + 2) (by omega))
        have k3 : wr.cell? ⟨b, off + (4 * t + 3), none⟩ = _ := (hbr.cell (p := ⟨b, off + (4 * t + 3), none⟩) hb).trans (hcell (4 * t + 3) (by omega))
        have y0 := (bs[4 * t]?.getD 0).toNat_lt
        have y1 := (bs[4 * t + 1]?.getD 0).toNat_lt
        have y2 := (bs[4 * t + 2]?.getD 0).toNat_lt
        have y3 := (bs[4 * t + 3]?.getD 0).toNat_lt
        have HW : Hid (ws.getD t 0 = (bs[4 * t]?.getD 0).toNat * 16777216 + (bs[4 * t + 1]?.getD 0).toNat * 65536 + (bs[4 * t + 2]?.getD 0).toNat * 256 + (bs[4 * t + 3]?.getD 0).toNat) := hid (by
          rw [HLO.out t h16]
          have e : (bs.drop (4 * t)).take 4 = [bs[4 * t]?.getD 0, bs[4 * t + 1]?.getD 0, bs[4 * t + 2]?.getD 0, bs[4 * t + 3]?.getD 0] := by
            rw [List.getElem?_eq_getElem (by omega), List.getElem?_eq_getElem (by omega), List.getElem?_eq_getElem (by omega), List.getElem?_eq_getElem (by omega)]
            simp only [Option.getD_some]
            rw [List.drop_eq_getElem_cons (by omega), List.take_succ_cons, List.drop_eq_getElem_cons (by omega), List.take_succ_cons, List.drop_eq_getElem_cons (by omega), List.take_succ_cons, List.drop_eq_getElem_cons (by omega), List.take_succ_cons, List.take_zero]
          rw [e]
          simp [num]
          omega)
        clear hcell
        generalize (bs[4 * t]?.getD 0).toNat = c0 at *
        generalize (bs[4 * t + 1]?.getD 0).toNat = c1 at *
        generalize (bs[4 * t + 2]?.getD 0).toNat = c2 at *
        generalize (bs[4 * t + 3]?.getD 0).toNat = c3 at *
        have q0 : IntKind.i64.wrap ((4 : Int) * (t : Int)) = 4 * (t : Int) := by rw [IntKind.wrap_i64]; omega
        have q1 : IntKind.i64.wrap ((4 : Int) * (t : Int) + 1) = 4 * (t : Int) + 1 := by rw [IntKind.wrap_i64]; omega
        have q2 : IntKind.i64.wrap ((4 : Int) * (t : Int) + 2) = 4 * (t : Int) + 2 := by rw [IntKind.wrap_i64]; omega
        have q3 : IntKind.i64.wrap ((4 : Int) * (t : Int) + 3) = 4 * (t : Int) + 3 := by rw [IntKind.wrap_i64]; omega
        have p0 : (0 : Int) ≤ 4 * (t : Int) := by omega
        have p1 : (0 : Int) ≤ 4 * (t : Int) + 1 := by omega
        have p2 : (0 : Int) ≤ 4 * (t : Int) + 2 := by omega
        have p3 : (0 : Int) ≤ 4 * (t : Int) + 3 := by omega
        have n0 : (4 * (t : Int)).toNat = 4 * t := by omega
        have n1 : (4 * (t : Int) + 1).toNat = 4 * t + 1 := by omega
        have n2 : (4 * (t : Int) + 2).toNat = 4 * t + 2 := by omega
        have n3 : (4 * (t : Int) + 3).toNat = 4 * t + 3 := by omega
        have z0 : (4 : Int) * (t : Int) < 64 := by omega
        have z1 : (4 : Int) * (t : Int) + 1 < 64 := by omega
        have z2 : (4 : Int) * (t : Int) + 2 < 64 := by omega
        have z3 : (4 : Int) * (t : Int) + 3 < 64 := by omega
        go_wp2_with fail
        refine wp_region_still_tail 36 (by kernel_rfl) (by kernel_rfl) ?_
        simp only [List.take_succ_cons, List.take_zero, List.drop_succ_cons, List.drop_zero]
        repeat still_step
        try refine wpStill_nil ?_
        go_wp2
        refine ⟨⟨t + 1, by omega, by go_num, hid ?_, (hbr.setCell (p := ⟨w.heap.size, t, none⟩) (Nat.le_refl _) _).drew⟩, by simp [intOf]; omega⟩
        have e : bits .or .i64 (bits .or .i64 (bits .or .i64 ((c0 : Int) * 16777216) ((c1 : Int) * 65536)) ((c2 : Int) * 256)) (c3 : Int) = ((ws.getD t 0 : Nat) : Int) := by
          have y0' : c0 < 256 := y0
          have y1' : c1 < 256 := y1
          have y2' : c2 < 256 := y2
          have y3' : c3 < 256 := y3
          have l1 : c0 * 16777216 ||| c1 * 65536 < 4294967296 := or_lt32 (by omega) (by omega)
          have l2 : (c0 * 16777216 ||| c1 * 65536) ||| c2 * 256 < 4294967296 := or_lt32 l1 (by omega)
          rw [show (c0 : Int) * 16777216 = ((c0 * 16777216 : Nat) : Int) from by omega, show (c1 : Int) * 65536 = ((c1 * 65536 : Nat) : Int) from by omega, show (c2 : Int) * 256 = ((c2 * 256 : Nat) : Int) from by omega]
          rw [or64 _ _ (by omega) (by omega), or64 _ _ (by omega) (by omega), or64 _ _ (by omega) (by omega), word_bytes c0 c1 c2 c3 y0 y1 y2 y3, HW.out]
        rw [e, ← laidW_step ws t HSL.out hlt]
        exact heap_setCell_same wr _ _ _ _ _ HR.out
      · have c2 := (cell_of_row wr _ (t - 2) _ _ _ HR.out).trans (laidW_at ws t (t - 2) HSL.out (by omega) ht)
        have c7 := (cell_of_row wr _ (t - 7) _ _ _ HR.out).trans (laidW_at ws t (t - 7) HSL.out (by omega) ht)
        have c15 := (cell_of_row wr _ (t - 15) _ _ _ HR.out).trans (laidW_at ws t (t - 15) HSL.out (by omega) ht)
        have c16 := (cell_of_row wr _ (t - 16) _ _ _ HR.out).trans (laidW_at ws t (t - 16) HSL.out (by omega) ht)
        have x2 : IntKind.i64.wrap ((t : Int) - 2) = ((t - 2 : Nat) : Int) := by rw [IntKind.wrap_i64]; omega
        have x7 : IntKind.i64.wrap ((t : Int) - 7) = ((t - 7 : Nat) : Int) := by rw [IntKind.wrap_i64]; omega
        have x15 : IntKind.i64.wrap ((t : Int) - 15) = ((t - 15 : Nat) : Int) := by rw [IntKind.wrap_i64]; omega
        have x16 : IntKind.i64.wrap ((t : Int) - 16) = ((t - 16 : Nat) : Int) := by rw [IntKind.wrap_i64]; omega
        have y2 : ((t - 2 : Nat) : Int) < 64 := by omega
        have y7 : ((t - 7 : Nat) : Int) < 64 := by omega
        have y15 : ((t - 15 : Nat) : Int) < 64 := by omega
        have y16 : ((t - 16 : Nat) : Int) < 64 := by omega
        have yt : (t : Int) < 64 := by omega
        have b2 := HLT.out (t - 2)
        have b7 := HLT.out (t - 7)
        have b15 := HLT.out (t - 15)
        have b16 := HLT.out (t - 16)
        have HW := hid (HHI.out t (by omega) hlt)
        clear hcell
        generalize ws.getD (t - 2) 0 = X2 at *
        generalize ws.getD (t - 7) 0 = X7 at *
        generalize ws.getD (t - 15) 0 = X15 at *
        generalize ws.getD (t - 16) 0 = X16 at *
        have r17 := rot_lt X2 17 b2
        have r19 := rot_lt X2 19 b2
        have r7 := rot_lt X15 7 b15
        have r18 := rot_lt X15 18 b15
        have e1 := xor64 (rot X2 17) (rot X2 19) (by omega) (by omega)
        have e2 : bits .xor .i64 ((rot X2 17 ^^^ rot X2 19 : Nat) : Int) ((X2 : Int) / 1024) = ((lo1 X2 : Nat) : Int) := by
          have := xor_lt32 r17 r19
          rw [show (X2 : Int) / 1024 = ((X2 / 1024 : Nat) : Int) from by omega, xor64 _ _ (by omega) (by omega)]
          rfl
        have e3 := xor64 (rot X15 7) (rot X15 18) (by omega) (by omega)
        have e4 : bits .xor .i64 ((rot X15 7 ^^^ rot X15 18 : Nat) : Int) ((X15 : Int) / 8) = ((lo0 X15 : Nat) : Int) := by
          have := xor_lt32 r7 r18
          rw [show (X15 : Int) / 8 = ((X15 / 8 : Nat) : Int) from by omega, xor64 _ _ (by omega) (by omega)]
          rfl
        have f1 := lo1_lt b2
        have f2 := lo0_lt b15
        have u7 : ¬ t - 7 = t := by omega
        have u16 : ¬ t - 16 = t := by omega
        have v7 : ¬ t = t - 7 := by omega
        have v16 : ¬ t = t - 16 := by omega
        go_wp2_with fail
        go_region_held3 (fun w' => w'.cell? ⟨w.heap.size, t - 7, none⟩ = some (.int .i64 (X7 : Int)) ∧ w'.cell? ⟨w.heap.size, t - 16, none⟩ = some (.int .i64 (X16 : Int)))
          (first
            | go_keep
            | (exact ⟨(World.cell?_setCell_other _ _ _ _ (off_ne _ _ _ v7)).trans c7, (World.cell?_setCell_other _ _ _ _ (off_ne _ _ _ v16)).trans c16⟩))
          ((go_at_call 31; refine (turn_int _ _ _ (by assumption) (by decide) (by decide)).mono ?_; rintro e' w' ⟨rfl, mq, rfl⟩))
        have e5 : ((lo1 X2 : Nat) + (X7 : Int) + (lo0 X15 : Nat) + (X16 : Int)) % 4294967296 = ((ws.getD t 0 : Nat) : Int) := by rw [HW.out]; omega
        have HE5 := hid e5
        clear e5 e1 e2 e3 e4 x2 x7 x15 x16
        go_wp2_with fail
        refine ⟨⟨t + 1, by omega, by go_num, hid ?_, (below_drewN hbr _).setCell (p := ⟨w.heap.size, t, none⟩) (Nat.le_refl _) _⟩, by simp [intOf]; omega⟩
        rw [HE5.out, ← laidW_step ws t HSL.out hlt]
        exact heap_setCell_same (wr.drewN _) _ _ _ _ _ HR.out
    · have ht64 : t = 64 := by omega
      have HF : Hid (wr.heap[w.heap.size]? = some (.cells (ws.map iv).toArray 3 (0, 0))) := hid (by
        have := HR.out
        rwa [ht64, show laidW ws 64 = ws by rw [laidW, List.take_of_length_le (by rw [HSL.out]; exact Nat.le_refl _)]; simp] at this)
      clear ht64
      go_wp2
      go_ret
      exact ⟨rfl, HF.out, hbr⟩

theorem expand_any (B : Nat) (v : Value) (bs : List UInt8) (w : World) (hB : B ≤ w.heap.size) (hsh : Shows B w v bs) (hl : bs.length = 64) :
    Calls Tryd.prog 30 #[v] w fun e w' => e = .returned (.slice (some ⟨w.heap.size, 0, none⟩) 64 64) ∧ w'.heap[w.heap.size]? = some (.cells ((sched bs).map iv).toArray 3 (0, 0)) ∧ Below w.heap.size w w' := by
  obtain ⟨a, c, rfl, h1, h2, hn, h3⟩ := hsh
  obtain ⟨b, off, rfl, hlt, hc⟩ := h3 (by intro e; simp [e] at hl)
  rw [hl] at h1 hc ⊢
  exact expand_some b off c bs w hl (by omega) h1 h2 hc
end Go.Proofs.YtomfhihhhfelfaaDoor
