/- Contracts of digest.Hex and digest.Unhex. -/
import Derived.Test.YtomfhihhhfelfaaDoorHexF
namespace Go.Proofs.YtomfhihhhfelfaaDoor
open Go.RowKit
set_option linter.unusedVariables false

def digs : List UInt8 := [48, 49, 50, 51, 52, 53, 54, 55, 56, 57, 97, 98, 99, 100, 101, 102]
def hexDig (n : Nat) : UInt8 := digs.getD n 0

/-- A digest in digits. -/
def hexOf (bs : List UInt8) : List UInt8 := bs.flatMap fun b => [hexDig (b.toNat / 16), hexDig (b.toNat % 16)]

theorem hexOf_cons (b : UInt8) (bs : List UInt8) : hexOf (b :: bs) = hexDig (b.toNat / 16) :: hexDig (b.toNat % 16) :: hexOf bs := rfl

theorem hexOf_length (bs : List UInt8) : (hexOf bs).length = 2 * bs.length := by
  induction bs with
  | nil => rfl
  | cons b bs ih => rw [hexOf_cons, List.length_cons, List.length_cons, List.length_cons, ih]; omega

theorem hexOf_at (bs : List UInt8) (k : Nat) (u : UInt8) (h : bs[k]? = some u) : (hexOf bs)[2 * k]? = some (hexDig (u.toNat / 16)) ∧ (hexOf bs)[2 * k + 1]? = some (hexDig (u.toNat % 16)) := by
  induction bs generalizing k with
  | nil => simp at h
  | cons b bs ih =>
    cases k with
    | zero => simp at h; subst h; exact ⟨rfl, rfl⟩
    | succ k =>
      have := ih k (by simpa using h)
      rw [hexOf_cons, show 2 * (k + 1) = 2 * k + 1 + 1 by omega]
      exact this

theorem hexDig_run (n : Nat) (h : n < 16) (W : World) : (Instr.index 9 (.string ⟨#[48, 49, 50, 51, 52, 53, 54, 55, 56, 57, 97, 98, 99, 100, 101, 102]⟩) (.int .u8 (n : Int))).run Tryd.prog W = .ok (.int .u8 ((hexDig n).toNat : Int)) W := by
  have : ∀ n : Fin 16, (⟨#[48, 49, 50, 51, 52, 53, 54, 55, 56, 57, 97, 98, 99, 100, 101, 102]⟩ : ByteArray)[n.val]? = some (hexDig n.val) := by decide +kernel
  have h1 := this ⟨n, h⟩
  simp only at h1
  simp [Instr.index, run_underlying Tryd.underlying9, asIntOf, h1]

theorem fill_later (bs : List UInt8) (n k j : Nat) (hl : bs.length = n) (hk : k ≤ j) (hj : j < n) : ((bs.take k ++ List.replicate (n - k) 0).map by8).toArray[j]? = some (.int .u8 0) := by
  have hkl : (bs.take k).length = k := by simp; omega
  rw [List.getElem?_toArray, List.getElem?_map, List.getElem?_append_right (by omega), hkl, List.getElem?_replicate, if_pos (by omega)]
  rfl

theorem mask4 (n : Nat) (h : n < 256) : bits .and .u8 (n : Int) 15 = ((n % 16 : Nat) : Int) := by
  have := bits_mask .u8 8 (by decide) wraps_u8 4 (by decide) (n : Int) (by omega) (by simp; omega)
  rw [show (2 : Int) ^ 4 - 1 = 15 from rfl] at this
  rw [this]
  simp

set_option maxRecDepth 100000 in
set_option maxHeartbeats 8000000 in
theorem hex_any (bs : List UInt8) (w : World) (hl : bs.length = 32) :
    Calls Tryd.prog 21 #[.agg (bs.map by8).toArray] w fun e w' => e = .returned (.string (str8 (hexOf bs))) ∧ Below w.heap.size w w' := by
  obtain ⟨A, hA⟩ : ∃ A, A = (bs.map by8).toArray := ⟨_, rfl⟩
  rw [← hA]
  have HA := hid hA
  clear hA
  go_enter Tryd.func21, Tryd.ntmps21
  go_wp2_with fail
  obtain ⟨b1, b0, hbel⟩ := two_new w (.cells A 26) (.cells (List.replicate 64 (.int .u8 0)).toArray 63)
  simp only [List.replicate_succ, List.replicate_zero] at b1 b0 hbel
  generalize World.alloc _ _ = w0 at *
  have hsb : (hexOf bs).length = 64 := by rw [hexOf_length, hl]
  have HAT : Hid (∀ k, k < 32 → (hexOf bs)[2 * k]? = some (hexDig ((bs[k]?.getD 0).toNat / 16)) ∧ (hexOf bs)[2 * k + 1]? = some (hexDig ((bs[k]?.getD 0).toNat % 16))) := hid (fun k hk => hexOf_at bs k _ (by rw [List.getElem?_eq_getElem (by omega)]; rfl))
  have HC : Hid (∀ k, k < 32 → A[k]? = some (.int .u8 ((bs[k]?.getD 0).toNat : Int))) := hid (fun k hk => by rw [HA.out]; simp [hl, hk, by8])
  have HB1 : Hid (w0.heap[w.heap.size + 1]? = some (.cells (((hexOf bs).take 0 ++ List.replicate 64 0).map by8).toArray 63 (0, 0))) := hid b1
  have HB0 := hid b0
  clear b1 b0
  generalize hhs : hexOf bs = hs at *
  have HHS := hid hhs
  clear hhs
  go_loopw [5] (fun i wr => ∃ k : Nat, k ≤ 32 ∧ i = .int .i64 k ∧ Hid (wr.heap[w.heap.size + 1]? = some (.cells (((hs.take (2 * k) ++ List.replicate (64 - 2 * k) 0).map by8).toArray) 63 (0, 0))) ∧ wr.heap[w.heap.size]? = w0.heap[w.heap.size]? ∧ Below w.heap.size w wr) (fun i _ => 32 - (intOf i).toNat)
  case atStart => exact ⟨0, Nat.zero_le _, rfl, HB1, rfl, hbel⟩
  case round =>
    obtain ⟨k, hk, rfl, HR1, r0, hbr⟩ := hrel
    by_cases hlt : k < 32
    · have hc1 := (cell_of_row wr _ k _ _ _ (r0.trans HB0.out)).trans (HC.out k hlt)
      have hf1 : wr.frozen? ⟨w.heap.size + 1, 2 * k, none⟩ = false := frozen_of_row wr _ _ _ _ HR1.out
      have hc2 := (cell_of_row wr _ _ _ _ _ HR1.out).trans (fill_cell hs 64 (2 * k) hsb (by omega))
      have hc3 := (cell_of_row wr _ _ _ _ _ HR1.out).trans (fill_later hs 64 (2 * k) (2 * k + 1) hsb (by omega) (by omega))
      have hf3 : wr.frozen? ⟨w.heap.size + 1, 2 * k + 1, none⟩ = false := frozen_of_row wr _ _ _ _ HR1.out
      have HS := hid (HAT.out k hlt)
      have hbt := (bs[k]?.getD 0).toNat_lt
      have HR0 := hid r0
      have x4 : (k : Int) < 32 := by omega
      clear r0
      generalize (bs[k]?.getD 0).toNat = x at *
      have hx1 := hexDig_run (x / 16) (by omega)
      have hx2 := hexDig_run (x % 16) (by omega)
      have hx0 : ((x / 16 : Nat) : Int) = (x : Int) / 16 := by omega
      have hm4 := mask4 x (by omega)
      have hxm : ((x % 16 : Nat) : Int) = (x : Int) % 16 := by omega
      rw [hx0] at hx1
      rw [hxm] at hx2 hm4
      clear hx0 hxm
      go_wp2
      go_roundw
      case rel =>
        refine ⟨k + 1, by omega, by go_num, hid ?_, ?_, (hbr.setCell (p := ⟨w.heap.size + 1, 2 * k, none⟩) (Nat.le_succ _) _).setCell (p := ⟨w.heap.size + 1, 2 * k + 1, none⟩) (Nat.le_succ _) _⟩
        · rw [show 2 * (k + 1) = 2 * k + 1 + 1 by omega, ← fill_step hs 64 (2 * k + 1) hsb (by omega) _ HS.out.2, ← fill_step hs 64 (2 * k) hsb (by omega) _ HS.out.1]
          exact heap_setCell_same _ _ _ _ _ _ (heap_setCell_same wr _ _ _ _ _ HR1.out)
        · rw [← HR0.out]
          exact (heap_setCell_other _ _ _ _ (by simp)).trans (heap_setCell_other wr _ _ _ (by simp))
      case measure => simp [intOf]; omega
    · have hk32 : k = 32 := by omega
      have hsb' := hsb
      have HR2 : Hid (wr.heap[w.heap.size + 1]? = some (.cells ((hs.map by8).toArray) 63 (0, 0))) := hid (by
        have := HR1.out
        rwa [hk32, show hs.take (2 * 32) ++ List.replicate (64 - 2 * 32) 0 = hs by rw [List.take_of_length_le (by omega)]; simp] at this)
      have hshw : Shows wr.heap.size wr (.slice (some ⟨w.heap.size + 1, 0, none⟩) 64 64) hs := by
        refine ⟨_, 64, by rw [hsb], by omega, by unfold maxLen; omega, (fun e => by cases e), fun _ => ⟨w.heap.size + 1, 0, rfl, block_lt HR2.out, fun j hj => ?_⟩⟩
        rw [Nat.zero_add, cell_of_row wr _ _ _ _ _ HR2.out]
        simp [hj, by8]
      have hcv := run_string_shows (P := Tryd.prog) 22 5 9 Tryd.underlying22 Tryd.underlying5 Tryd.underlying9 hshw
      clear hsb hsb' hk32 hshw
      go_wp2
      go_ret
      exact ⟨by rw [HHS.out]; rfl, hbr⟩

/-- Digits worked into 32 bytes, i of them. -/
def num16 (ds : List UInt8) : Nat := ds.foldl (fun n c => n * 16 + digVal c) 0

def hpart (l : List UInt8) (i : Nat) : List UInt8 := (List.range 32).map fun j => UInt8.ofNat (num16 ((l.drop (2 * j)).take (min 2 (i - 2 * j))))

theorem hpart_length (l : List UInt8) (i : Nat) : (hpart l i).length = 32 := by simp [hpart]

theorem hpart_zero (l : List UInt8) : hpart l 0 = List.replicate 32 0 := by
  simp [hpart, num16]
  rfl

theorem digVal_lt (c : UInt8) : digVal c < 16 := by
  unfold digVal
  split <;> omega

theorem hpart_at (l : List UInt8) (i j : Nat) (hj : j < 32) : (hpart l i)[j]? = some (UInt8.ofNat (num16 ((l.drop (2 * j)).take (min 2 (i - 2 * j))))) := by
  simp [hpart, hj]

/-- One digit more. -/
theorem hpart_step (l : List UInt8) (i : Nat) (hi : i < 64) (hl : l.length = 64) : ∃ x : Nat, x < 16 ∧ (hpart l i)[i / 2]? = some (UInt8.ofNat x) ∧
    hpart l (i + 1) = (hpart l i).set (i / 2) (UInt8.ofNat (x * 16 + digVal (l[i]?.getD 0))) := by
  have hq : i / 2 < 32 := by omega
  have hmin : min 2 (i - 2 * (i / 2)) = i - 2 * (i / 2) := by omega
  refine ⟨num16 ((l.drop (2 * (i / 2))).take (i - 2 * (i / 2))), ?_, by rw [hpart_at _ _ _ hq, hmin], ?_⟩
  · rcases (by omega : i - 2 * (i / 2) = 0 ∨ i - 2 * (i / 2) = 1) with h | h
    · rw [h]; simp [num16]
    · rw [h]
      cases hd : l.drop (2 * (i / 2)) with
      | nil => simp [num16]
      | cons a r => simp [num16]; exact digVal_lt a
  · apply List.ext_getElem?
    intro j
    by_cases hj : j < 32
    · rw [hpart_at _ _ _ hj, List.getElem?_set, hpart_length]
      by_cases hji : i / 2 = j
      · subst hji
        rw [if_pos rfl, if_pos hq, show min 2 (i + 1 - 2 * (i / 2)) = (i - 2 * (i / 2)) + 1 by omega]
        have hlt : i - 2 * (i / 2) < (l.drop (2 * (i / 2))).length := by simp; omega
        rw [List.take_succ_eq_append_getElem hlt]
        have e : (l.drop (2 * (i / 2)))[i - 2 * (i / 2)]'hlt = l[i]?.getD 0 := by
          rw [List.getElem_drop, List.getElem?_eq_getElem (by omega), Option.getD_some]
          congr 1
          omega
        rw [e]
        simp [num16]
      · rw [if_neg hji, hpart_at _ _ _ hj]
        congr 4
        omega
    · rw [List.getElem?_eq_none (by rw [hpart_length]; omega), List.getElem?_eq_none (by rw [List.length_set, hpart_length]; omega)]

/-- The way back: the error, the bytes. -/
def unhexOf (l : List UInt8) : Nat × List UInt8 := if l.length = 64 ∧ ∀ c ∈ l, digOk c = true then (0, hpart l 64) else (4, List.replicate 32 0)

theorem nib (x d : Nat) (hx : x < 16) (hd : d < 16) : bits .or .u8 ((x : Int) * 16) (d : Int) = ((x * 16 + d : Nat) : Int) := by
  rw [show (x : Int) * 16 = ((x * 16 : Nat) : Int) from by omega, (bits_nat .u8 8 (by decide) wraps_u8 _ _ (by simp; omega) (by simp; omega)).2]
  have := Nat.shiftLeft_add_eq_or_of_lt (i := 4) (b := d) (by omega) x
  rw [Nat.shiftLeft_eq] at this
  exact congrArg Int.ofNat this.symm

/-- A result in memory beside one that is none. -/
theorem results_row_tmp {fn : Func} {p u : Tmp} {ty : TypeId} (h : fn.results = #[.cell p ty, .tmp u]) (tmps : Array Value) (w : World) (g : Nat) (t : TypeId) (cs : Array Value) (fr : Nat × Nat) (n : Nat) (e : TypeId)
    (hp : tmps.getD p undef = .pointer (some ⟨g, 0, none⟩)) (hg : w.heap[g]? = some (.cells cs t fr))
    (hu : Tryd.prog.underlying ty = some (.array n e)) (hi : (Tryd.prog.info? ty).map (·.size) = some cs.size) :
    (results fn tmps).run Tryd.prog w = .ok (.tuple #[.agg cs, tmps.getD u undef]) w := by
  rw [results_cell_tmp h, hp]
  simp [asAddr, Result.andThen, run_loadVar_row (P := Tryd.prog) w g t ty cs fr (.array n e) hg hu rfl hi]

theorem Tryd.infoSum : (Tryd.prog.info? 26).map (·.size) = some 32 := by kernel_rfl

def zero32 : Array Value := (List.replicate 32 (Value.int .u8 0)).toArray

theorem zero32_one : zero32.all (·.oneCell') = true := by decide +kernel

theorem zero32_eq : zero32 = ((List.replicate 32 (0 : UInt8)).map by8).toArray := by simp [zero32, by8]

set_option maxRecDepth 100000 in
set_option maxHeartbeats 8000000 in
theorem unhex_len (s : ByteArray) (w : World) (hn : s.size ≠ 64) (hm : s.size ≤ maxLen) :
    Calls Tryd.prog 19 #[.string s] w fun e w' => e = .returned (.tuple #[.agg zero32, .int .i64 4]) ∧ Below w.heap.size w w' := by
  unfold maxLen at hm
  have hn2 : ((s.size : Int) != 64) = true := by rw [bne_iff_ne]; omega
  have hnew := heap_alloc_new w (.cells zero32 26)
  have hbn : Below w.heap.size w (w.alloc (.cells zero32 26)) := (Below.refl _ _).alloc (Nat.le_refl _) _
  go_enter Tryd.func19, Tryd.ntmps19
  go_wp2_with (first
    | (refine wpList_store_row rfl 26 (.tmp 2) (.tmp 11) rfl w.heap.size zero32 rfl rfl 26 zero32 (heap_alloc_new w _) Tryd.infoSum rfl zero32_one ?_))
  refine bodyPost_ret (v := .tuple #[.agg zero32, .int .i64 4]) (results_row_tmp (p := 2) (u := 3) (ty := 26) rfl _ _ w.heap.size 26 zero32 (0, 0) _ _ rfl (setRow_heap _ _ _ _ _ _ (heap_alloc_new w _)) Tryd.underlying26 Tryd.infoSum) rfl ⟨rfl, below_setRow hbn (Nat.le_refl _) _⟩

set_option maxRecDepth 100000 in
set_option maxHeartbeats 8000000 in
theorem unhex_64 (s : ByteArray) (w : World) (hn : s.size = 64) :
    Calls Tryd.prog 19 #[.string s] w fun e w' => e = .returned (.tuple #[.agg ((unhexOf s.data.toList).2.map by8).toArray, .int .i64 (unhexOf s.data.toList).1]) ∧ Below w.heap.size w w' := by
  have hsz : s.data.toList.length = 64 := by rw [Array.length_toList]; exact hn
  have HBAD : Hid (∀ k, k < 64 → digOk (s.data.toList[k]?.getD 0) = false → Ending.returned (.tuple #[.agg ((unhexOf s.data.toList).2.map by8).toArray, .int .i64 (unhexOf s.data.toList).1]) = .returned (.tuple #[.agg zero32, .int .i64 4])) := hid (fun k hk hd => by
    have : unhexOf s.data.toList = (4, List.replicate 32 0) := by
      rw [unhexOf, if_neg]
      rintro ⟨_, hall⟩
      have := hall (s.data.toList[k]'(by omega)) (List.getElem_mem _)
      rw [List.getElem?_eq_getElem (by omega), Option.getD_some] at hd
      rw [hd] at this
      cases this
    rw [this, zero32_eq]
    rfl)
  have HOK : Hid ((∀ k, k < 64 → digOk (s.data.toList[k]?.getD 0) = true) → Ending.returned (.tuple #[.agg ((unhexOf s.data.toList).2.map by8).toArray, .int .i64 (unhexOf s.data.toList).1]) = .returned (.tuple #[.agg ((hpart s.data.toList 64).map by8).toArray, .int .i64 0])) := hid (fun hall => by
    have : unhexOf s.data.toList = (0, hpart s.data.toList 64) := by
      rw [unhexOf, if_pos]
      refine ⟨hsz, fun c hc => ?_⟩
      obtain ⟨j, hj, rfl⟩ := List.getElem_of_mem hc
      have := hall j (by omega)
      rwa [List.getElem?_eq_getElem hj, Option.getD_some] at this
    rw [this]
    rfl)
  have HIX : Hid (∀ (k : Nat) (W : World), k < 64 → (Instr.index 9 (.string s) (.int .i64 (k : Int))).run Tryd.prog W = .ok (.int .u8 ((s.data.toList[k]?.getD 0).toNat : Int)) W) := hid (fun k W hk => by
    have h1 : s[k]? = some (s.data.toList[k]?.getD 0) := by
      have h2 : k < s.size := by omega
      rw [getElem?_pos s k h2]
      rw [List.getElem?_eq_getElem (by omega), Option.getD_some]
      simp
      rfl
    simp [Instr.index, run_underlying Tryd.underlying9, asIntOf, h1])
  have HST : Hid (∀ k, k < 64 → ∃ x : Nat, x < 16 ∧ (hpart s.data.toList k)[k / 2]? = some (UInt8.ofNat x) ∧ hpart s.data.toList (k + 1) = (hpart s.data.toList k).set (k / 2) (UInt8.ofNat (x * 16 + digVal (s.data.toList[k]?.getD 0)))) := hid (fun k hk => hpart_step _ k hk hsz)
  have hns : ((s.size : Int) != 64) = false := by rw [hn]; rfl
  clear hsz
  generalize hl : s.data.toList = l at *
  have HL := hid hl
  clear hl
  go_enter Tryd.func19, Tryd.ntmps19
  go_wp2_with fail
  obtain ⟨b1, b0, hbel⟩ := two_new w (.cells zero32 26) (.cells zero32 26)
  simp only [zero32, List.replicate_succ, List.replicate_zero] at b1 b0 hbel
  generalize World.alloc _ _ = w0 at *
  have HB1 : Hid (w0.heap[w.heap.size + 1]? = some (.cells ((hpart l 0).map by8).toArray 26 (0, 0))) := hid (by rw [hpart_zero]; exact b1)
  have HB0 : Hid (w0.heap[w.heap.size]? = some (.cells zero32 26 (0, 0))) := hid b0
  clear b1 b0
  go_loopw [12] (fun i wr => ∃ k : Nat, k ≤ 64 ∧ i = .int .i64 k ∧ Hid (wr.heap[w.heap.size + 1]? = some (.cells ((hpart l k).map by8).toArray 26 (0, 0))) ∧ Hid (wr.heap[w.heap.size]? = some (.cells zero32 26 (0, 0))) ∧ Hid (∀ j, j < k → digOk (l[j]?.getD 0) = true) ∧ Below w.heap.size w wr) (fun i _ => 64 - (intOf i).toNat)
  case atStart => exact ⟨0, Nat.zero_le _, rfl, HB1, HB0, hid (fun j hj => by omega), hbel⟩
  case round =>
    clear HB1 HB0 hbel
    obtain ⟨k, hk, rfl, HR1, HR0, HD, hbr⟩ := hrel
    by_cases hlt : k < 64
    · obtain ⟨x, hx, hx2, hx3⟩ := HST.out k hlt
      have hix := fun W => HIX.out k W hlt
      have HX3 := hid hx3
      have hc1 : wr.cell? ⟨w.heap.size + 1, k / 2, none⟩ = some (.int .u8 (x : Int)) := by
        rw [cell_of_row wr _ _ _ _ _ HR1.out, List.getElem?_toArray, List.getElem?_map, hx2]
        simp [by8, UInt8.toNat_ofNat']
        omega
      have hf1 : wr.frozen? ⟨w.heap.size + 1, k / 2, none⟩ = false := frozen_of_row wr _ _ _ _ HR1.out
      have HDG := hid (fun W => digitOf_any (l[k]?.getD 0) W)
      have HBK := hid (HBAD.out k hlt)
      have k4 : (k : Int) < 64 := by omega
      clear hx2 hx3
      cases hd : digOk (l[k]?.getD 0) with
      | false =>
        rw [hd] at HDG
        have HE := hid (HBK.out hd)
        clear hd HBK
        generalize digVal (l[k]?.getD 0) = dv at *
        generalize (l[k]?.getD 0).toNat = cv at *
        go_wp2_with (first
          | (go_at_call 35; refine (HDG.out _).mono ?_; rintro e' w' ⟨rfl, rfl⟩)
          | (refine wpList_store_row rfl 26 (.tmp 2) (.tmp 24) rfl w.heap.size zero32 rfl rfl 26 zero32 HR0.out Tryd.infoSum rfl zero32_one ?_))
        refine bodyPost_ret (v := .tuple #[.agg zero32, .int .i64 4]) (results_row_tmp (p := 2) (u := 3) (ty := 26) rfl _ _ w.heap.size 26 zero32 (0, 0) _ _ rfl (setRow_heap _ _ _ _ _ _ HR0.out) Tryd.underlying26 Tryd.infoSum) rfl ⟨?_, below_setRow hbr (Nat.le_refl _) _⟩
        exact HE.out.symm
      | true =>
        rw [hd] at HDG
        have HDK := hid hd
        have HDL := hid (digVal_lt (l[k]?.getD 0))
        clear hd HBK
        generalize hdv : digVal (l[k]?.getD 0) = dv at *
        have HDV := hid hdv
        clear hdv
        generalize (l[k]?.getD 0).toNat = cv at *
        have HNB := hid (nib x dv hx HDL.out)
        go_wp2_with (first
          | (go_at_call 35; refine (HDG.out _).mono ?_; rintro e' w' ⟨rfl, rfl⟩))
        refine ⟨⟨k + 1, by omega, by go_num, hid ?_, hid ?_, hid ?_, hbr.setCell (p := ⟨w.heap.size + 1, k / 2, none⟩) (Nat.le_succ _) _⟩, by simp [intOf]; omega⟩
        · rw [HNB.out, HX3.out]
          refine (heap_setCell_same _ _ _ _ _ _ HR1.out).trans ?_
          rw [List.setIfInBounds_toArray, List.map_set]
          have e : by8 (UInt8.ofNat (x * 16 + dv)) = .int .u8 ((x * 16 + dv : Nat) : Int) := by
            have := HDL.out
            rw [by8, UInt8.toNat_ofNat', Nat.mod_eq_of_lt (by omega)]
          rw [e]
        · rw [← HR0.out]
          exact heap_setCell_other _ _ _ _ (by simp)
        · intro j hj
          rcases Nat.lt_or_ge j k with h | h
          · exact HD.out j h
          · rw [show j = k by omega]; exact HDK.out
    · have hk64 : k = 64 := by omega
      obtain ⟨A, hA⟩ : ∃ A, A = ((hpart l 64).map by8).toArray := ⟨_, rfl⟩
      have HE := hid (HOK.out (fun j hj => HD.out j (by omega)))
      have HR2 : Hid (wr.heap[w.heap.size + 1]? = some (.cells A 26 (0, 0))) := hid (by have := HR1.out; rw [hk64] at this; rw [hA]; exact this)
      have hAs : A.size = 32 := by rw [hA]; simpa using hpart_length l 64
      have hA1 : A.all (·.oneCell') = true := by rw [hA]; simp [by8, Value.oneCell']
      have HI := hid (show (Tryd.prog.info? 26).map (·.size) = some A.size by rw [hAs]; exact Tryd.infoSum)
      have HZ := hid (show zero32.size = A.size from hAs.symm)
      have HA := hid hA
      clear hA hAs hk64
      go_wp2_with (first
        | (refine wpList_load_row rfl 26 (.tmp 4) rfl (w.heap.size + 1) rfl 26 A (0, 0) _ HR2.out Tryd.underlying26 rfl HI.out ?_)
        | (refine wpList_store_row rfl 26 (.tmp 2) (.tmp 36) rfl w.heap.size A rfl rfl 26 zero32 HR0.out HI.out HZ.out hA1 ?_))
      refine bodyPost_ret (v := .tuple #[.agg A, .int .i64 0]) (results_row_tmp (p := 2) (u := 3) (ty := 26) rfl _ _ w.heap.size 26 A (0, 0) _ _ rfl (setRow_heap _ _ _ _ _ _ HR0.out) Tryd.underlying26 HI.out) rfl ⟨?_, below_setRow hbr (Nat.le_refl _) _⟩
      rw [HA.out]
      exact HE.out.symm

theorem unhex_any (s : ByteArray) (w : World) (hm : s.size ≤ maxLen) :
    Calls Tryd.prog 19 #[.string s] w fun e w' => e = .returned (.tuple #[.agg ((unhexOf s.data.toList).2.map by8).toArray, .int .i64 (unhexOf s.data.toList).1]) ∧ Below w.heap.size w w' := by
  by_cases h : s.size = 64
  · exact unhex_64 s w h
  · have e : unhexOf s.data.toList = (4, List.replicate 32 0) := by
      rw [unhexOf, if_neg]
      rintro ⟨h1, _⟩
      exact h (by rw [← h1, Array.length_toList]; rfl)
    rw [e]
    refine (unhex_len s w h hm).mono fun e' w' ⟨he, hb⟩ => ⟨?_, hb⟩
    rw [he, zero32_eq]
    rfl

theorem unhexOf_length (l : List UInt8) : (unhexOf l).2.length = 32 := by
  unfold unhexOf
  split
  · exact hpart_length l 64
  · simp
end Go.Proofs.YtomfhihhhfelfaaDoor
