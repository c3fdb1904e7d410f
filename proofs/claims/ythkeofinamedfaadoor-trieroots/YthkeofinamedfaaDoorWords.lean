/- Contract of digest's stretched. -/
import Derived.Test.YthkeofinamedfaaDoorRot
import Derived.Test.YthkeofinamedfaaDoorRow
import Derived.Deep.WholeRow
import Derived.StillTailTactics
import Derived.Deep.QuietTactic
import Derived.BigQuiet
import Derived.Laws.CopyOwn
namespace Go.Proofs.YthkeofinamedfaaDoor
open Go.RowKit
set_option linter.unusedVariables false
set_option maxRecDepth 20000

theorem words_cell {w : World} {g : Nat} {ws : List Nat} {t : TypeId} (h : w.heap[g]? = some (.cells (ws.map w32).toArray t (0, 0))) (k : Nat) (hk : k < ws.length) :
    w.cell? ⟨g, k, none⟩ = some (.int .u32 ((ws.getD k 0 : Nat) : Int)) := by
  rw [cell_of_row w _ _ _ _ _ h]
  simp [hk, w32]

theorem words_set (ws : List Nat) (k v : Nat) : (ws.map w32).toArray.setIfInBounds k (w32 v) = ((ws.set k v).map w32).toArray := by
  simp [List.map_set]

theorem block_lt {w : World} {g : Nat} {o : Obj} (h : w.heap[g]? = some o) : g < w.heap.size := (Array.getElem?_eq_some_iff.1 h).1

/-- Two blocks, one behind the other. -/
theorem two_new (w : World) (o o' : Obj) : ((w.alloc o).alloc o').heap[w.heap.size + 1]? = some o' ∧ ((w.alloc o).alloc o').heap[w.heap.size]? = some o ∧ Below w.heap.size w ((w.alloc o).alloc o') := by
  have e : (w.alloc o).heap.size = w.heap.size + 1 := by show (w.heap.push o).size = _; simp
  refine ⟨?_, ?_, ((Below.refl _ _).alloc (Nat.le_refl _) _).alloc (by omega) _⟩
  · rw [← e]; exact heap_alloc_new _ _
  · rw [heap_alloc_old _ _ (by omega)]; exact heap_alloc_new _ _

theorem two_newN (w : World) (o o' : Obj) (n : Nat) : (((w.alloc o).alloc o').drewN n).heap[w.heap.size + 1]? = some o' ∧ (((w.alloc o).alloc o').drewN n).heap[w.heap.size]? = some o ∧ Below w.heap.size w (((w.alloc o).alloc o').drewN n) ∧ (((w.alloc o).alloc o').drewN n).heap.size = w.heap.size + 2 := by
  obtain ⟨h1, h2, h3⟩ := two_new w o o'
  refine ⟨h1, h2, below_drewN h3 n, ?_⟩
  show ((w.heap.push o).push o').size = _
  simp

theorem or_byte32 (x y : Nat) (hx : x < 16777216) (hy : y < 256) : bits .or .u32 ((x : Int) * 256 % 4294967296) (y : Int) = ((x * 256 + y : Nat) : Int) := by
  rw [show (x : Int) * 256 % 4294967296 = ((x * 256 : Nat) : Int) from by omega, or32 _ _ (by omega) (by omega)]
  have := Nat.shiftLeft_add_eq_or_of_lt (i := 8) (b := y) (by omega) x
  rw [Nat.shiftLeft_eq] at this
  exact congrArg Int.ofNat this.symm

/-- One more word, as the walk writes it. -/
theorem next_step (a b c d : Nat) (ha : a < 4294967296) (hc : c < 4294967296) :
    (bits .xor .u32 (bits .xor .u32 (rot a 17 : Nat) (rot a 19 : Nat)) ((a : Int) / 1024) + (b : Int) + bits .xor .u32 (bits .xor .u32 (rot c 7 : Nat) (rot c 18 : Nat)) ((c : Int) / 8) + (d : Int)) % 4294967296 =
      (((lo1 a + b + lo0 c + d) % 4294967296 : Nat) : Int) := by
  rw [xor32 _ _ (rot_lt _ _ ha) (rot_lt _ _ ha), xor32 _ _ (rot_lt _ _ hc) (rot_lt _ _ hc), show (a : Int) / 1024 = ((a / 1024 : Nat) : Int) from by omega, show (c : Int) / 8 = ((c / 8 : Nat) : Int) from by omega]
  rw [xor32 _ _ (xor_lt32 (rot_lt _ _ ha) (rot_lt _ _ ha)) (div_lt32 ha _), xor32 _ _ (xor_lt32 (rot_lt _ _ hc) (rot_lt _ _ hc)) (div_lt32 hc _)]
  rw [lo1, lo0]
  omega

set_option maxHeartbeats 16000000 in
theorem stretched_some (b off c : Nat) (bs : List UInt8) (w : World) (hl : bs.length = 64) (hb : b < w.heap.size) (hc : 64 ≤ c)
    (hcell : ∀ j, j < 64 → w.cell? ⟨b, off + j, none⟩ = some (.int .u8 ((bs[j]?.getD 0).toNat : Int))) :
    Calls Tryd.prog 85 #[.slice (some ⟨b, off, none⟩) 64 c] w fun e w' => e = .returned (.agg ((sched bs).map w32).toArray) ∧ Below w.heap.size w w' := by
  go_enter Tryd.func85, Tryd.ntmps85
  go_wp2
  go_loopw [8] (fun i wr => ∃ k : Nat, k ≤ 64 ∧ i = .int .i64 k ∧ wr.heap[w.heap.size + 1]? = some (.cells ((part bs k).map w32).toArray 121 (0, 0)) ∧ (∃ cz, cz.size = 64 ∧ wr.heap[w.heap.size]? = some (.cells cz 121 (0, 0))) ∧ Below w.heap.size w wr) (fun i _ => 64 - (intOf i).toNat)
  case atStart =>
    refine ⟨0, Nat.zero_le _, rfl, ?_, ⟨_, ?_, (two_new w _ _).2.1⟩, (two_new w _ _).2.2⟩
    · rw [part_zero]
      exact (two_new w _ _).1
    · rfl
  case round =>
    obtain ⟨k, hk, rfl, hrow, ⟨cz, hcz, hrow0⟩, hbel⟩ := hrel
    by_cases hlt : k < 64
    · have hc1 := words_cell hrow (k / 4) (by rw [part_length]; omega)
      have hc2 : wr.cell? ⟨b, off + k, none⟩ = _ := (hbel.cell (p := ⟨b, off + k, none⟩) hb).trans (hcell k hlt)
      have hfz : wr.frozen? ⟨w.heap.size + 1, k / 4, none⟩ = false := frozen_of_row wr _ _ _ _ hrow
      have i0 : (0 : Int) ≤ (k : Int) := by omega
      have i1 : (k : Int) < 64 := by omega
      have HS := hid (part_step bs k (by omega) hl)
      have hbt := (bs[k]?.getD 0).toNat_lt
      have HR := hid hrow
      have HR0 := hid hrow0
      have HC := hid hcz
      clear hrow hrow0 hcz hcell
      generalize (part bs k).getD (k / 4) 0 = x at *
      generalize (bs[k]?.getD 0).toNat = y at *
      go_wp2
      go_region
      have HO := hid (or_byte32 x y HS.out.2 hbt)
      go_wp2
      go_roundw
      case rel =>
        refine ⟨k + 1, by omega, by go_num, ?_, ⟨cz, HC.out, ?_⟩, (hbel.setCell (p := ⟨w.heap.size + 1, k / 4, none⟩) (Nat.le_succ _) _).drew⟩
        · rw [HS.out.1, ← words_set, w32, ← HO.out]
          exact heap_setCell_same wr _ _ _ _ _ HR.out
        · rw [← HR0.out]
          exact heap_setCell_other wr _ _ _ (by simp)
      case measure => simp [intOf]; omega
    · have hk64 : k = 64 := by omega
      rw [hk64, show part bs 64 = spread bs (16 - 16) from rfl] at hrow
      clear hk64
      have HR := hid hrow
      have HR0 := hid hrow0
      have HC := hid hcz
      clear hrow hrow0 hcz hcell
      go_wp2
      go_loopw [5] (fun i wr => ∃ t : Nat, 16 ≤ t ∧ t ≤ 64 ∧ i = .int .i64 t ∧ wr.heap[w.heap.size + 1]? = some (.cells ((spread bs (t - 16)).map w32).toArray 121 (0, 0)) ∧ (∃ cz, cz.size = 64 ∧ wr.heap[w.heap.size]? = some (.cells cz 121 (0, 0))) ∧ Below w.heap.size w wr) (fun i _ => 64 - (intOf i).toNat)
      case atStart => exact ⟨16, Nat.le_refl _, by omega, rfl, HR.out, ⟨cz, HC.out, HR0.out⟩, hbel⟩
      case round =>
        clear HR HR0 HC hbel
        obtain ⟨t, ht0, ht1, rfl, hrow, ⟨cz, hcz, hrow0⟩, hbel⟩ := hrel
        have hlen := spread_length bs (t - 16)
        by_cases hlt : t < 64
        · have c2 := words_cell hrow (t - 2) (by omega)
          have c7 := words_cell hrow (t - 7) (by omega)
          have c15 := words_cell hrow (t - 15) (by omega)
          have c16 := words_cell hrow (t - 16) (by omega)
          have ct := words_cell hrow t (by omega)
          have hfz : wr.frozen? ⟨w.heap.size + 1, t, none⟩ = false := frozen_of_row wr _ _ _ _ hrow
          have x2 : IntKind.i64.wrap ((t : Int) - 2) = ((t - 2 : Nat) : Int) := by rw [IntKind.wrap_i64]; omega
          have x7 : IntKind.i64.wrap ((t : Int) - 7) = ((t - 7 : Nat) : Int) := by rw [IntKind.wrap_i64]; omega
          have x15 : IntKind.i64.wrap ((t : Int) - 15) = ((t - 15 : Nat) : Int) := by rw [IntKind.wrap_i64]; omega
          have x16 : IntKind.i64.wrap ((t : Int) - 16) = ((t - 16 : Nat) : Int) := by rw [IntKind.wrap_i64]; omega
          have y2 : ((t - 2 : Nat) : Int) < 64 := by omega
          have y7 : ((t - 7 : Nat) : Int) < 64 := by omega
          have y15 : ((t - 15 : Nat) : Int) < 64 := by omega
          have y16 : ((t - 16 : Nat) : Int) < 64 := by omega
          have yt : (t : Int) < 64 := by omega
          have b2 := getD_lt (spread_lt bs (t - 16)) (t - 2)
          have b7 := getD_lt (spread_lt bs (t - 16)) (t - 7)
          have b15 := getD_lt (spread_lt bs (t - 16)) (t - 15)
          have b16 := getD_lt (spread_lt bs (t - 16)) (t - 16)
          have HN : Hid (nextWord (spread bs (t - 16)) t = (lo1 ((spread bs (t - 16)).getD (t - 2) 0) + (spread bs (t - 16)).getD (t - 7) 0 + lo0 ((spread bs (t - 16)).getD (t - 15) 0) + (spread bs (t - 16)).getD (t - 16) 0) % 4294967296) := hid rfl
          have HR := hid hrow
          have HR0 := hid hrow0
          have HC := hid hcz
          clear hrow hrow0 hcz hlen
          generalize (spread bs (t - 16)).getD (t - 2) 0 = X2 at *
          generalize (spread bs (t - 16)).getD (t - 7) 0 = X7 at *
          generalize (spread bs (t - 16)).getD (t - 15) 0 = X15 at *
          generalize (spread bs (t - 16)).getD (t - 16) 0 = X16 at *
          go_wp2
          go_quiet (fail)
          replace c7 : (wr.drewN nq).cell? _ = _ := c7
          replace c16 : (wr.drewN nq).cell? _ = _ := c16
          replace ct : (wr.drewN nq).cell? _ = _ := ct
          replace hfz : (wr.drewN nq).frozen? _ = _ := hfz
          replace HR : Hid ((wr.drewN nq).heap[w.heap.size + 1]? = _) := HR
          replace HR0 : Hid ((wr.drewN nq).heap[w.heap.size]? = _) := HR0
          replace hbel := below_drewN hbel nq
          clear c2 c15
          generalize wr.drewN nq = wq at *
          go_wp2
          refine wp_region_still_tail 29 (by kernel_rfl) (by kernel_rfl) ?_
          simp only [List.take_succ_cons, List.take_zero, List.drop_succ_cons, List.drop_zero]
          repeat still_step
          still_call (right_at X2 17 17 _ rfl b2 (by omega) (by omega))
          repeat still_step
          still_call (right_at X2 19 19 _ rfl b2 (by omega) (by omega))
          repeat still_step
          still_call (right_at X15 7 7 _ rfl b15 (by omega) (by omega))
          repeat still_step
          still_call (right_at X15 18 18 _ rfl b15 (by omega) (by omega))
          repeat still_step
          try refine wpStill_nil ?_
          go_wp2
          go_roundw
          case rel =>
            have HE := hid (next_step X2 X7 X15 X16 b2 b15)
            refine ⟨t + 1, by omega, by omega, by go_num, ?_, ⟨cz, HC.out, ?_⟩, ?_⟩
            · rw [show t + 1 - 16 = (t - 16) + 1 by omega, spread, show 16 + (t - 16) = t by omega, HN.out, ← words_set, w32, ← HE.out]
              exact heap_setCell_same wq _ _ _ _ _ HR.out
            · rw [← HR0.out]
              exact heap_setCell_other wq _ _ _ (by simp)
            · exact (hbel.setCell (p := ⟨w.heap.size + 1, t, none⟩) (Nat.le_succ _) _).drew
          case measure => simp [intOf]; omega
        · have hk48 : t = 64 := by omega
          subst hk48
          obtain ⟨A, hA⟩ : ∃ A, A = ((spread bs (64 - 16)).map w32).toArray := ⟨_, rfl⟩
          have hAs : A.size = 64 := by rw [hA]; simpa using hlen
          have hA1 : A.all (·.oneCell') = true := by rw [hA]; simp [w32, Value.oneCell']
          rw [← hA] at hrow
          have HA := hid hA
          have HR := hid hrow
          have HR0 := hid hrow0
          have HC := hid (hcz.trans hAs.symm)
          have HI := hid (show (Tryd.prog.info? 121).map (·.size) = some A.size by rw [hAs]; kernel_rfl)
          clear hA hrow hrow0 hcz hAs hlen
          go_wp2_with (first
            | (refine wpList_load_row rfl 121 (.tmp 3) rfl (w.heap.size + 1) rfl 121 A (0, 0) _ HR.out Tryd.underlying121 rfl HI.out ?_)
            | (refine wpList_store_row rfl 121 (.tmp 2) (.tmp 67) rfl w.heap.size A rfl rfl 121 cz HR0.out HI.out HC.out hA1 ?_)
            | (refine bodyPost_ret (v := .agg A) (results_cell_row rfl _ _ w.heap.size 121 A (0, 0) _ rfl (setRow_heap _ _ _ _ _ _ HR0.out) Tryd.underlying121 rfl HI.out) rfl ⟨by rw [HA.out]; rfl, below_setRow hbel (Nat.le_refl _) _⟩))

theorem stretched_any (B : Nat) (v : Value) (bs : List UInt8) (w : World) (hB : B ≤ w.heap.size) (hsh : Shows B w v bs) (hl : bs.length = 64) :
    Calls Tryd.prog 85 #[v] w fun e w' => e = .returned (.agg ((sched bs).map w32).toArray) ∧ Below w.heap.size w w' := by
  obtain ⟨a, c, rfl, h1, h2, hn, h3⟩ := hsh
  obtain ⟨b, off, rfl, hlt, hc⟩ := h3 (by intro e; simp [e] at hl)
  rw [hl] at h1 hc ⊢
  exact stretched_some b off c bs w hl (by omega) h1 hc
end Go.Proofs.YthkeofinamedfaaDoor
