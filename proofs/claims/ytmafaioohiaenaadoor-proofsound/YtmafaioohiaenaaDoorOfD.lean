/- Contracts of digest's bytes, digitOf, Hex, Unhex. -/
import Derived.Test.YtmafaioohiaenaaDoorSha
import Derived.Deep.RegionWith
import Derived.Deep.RegionHeld
import Derived.Deep.DeepCutAuto
import Derived.Test.YtmafaioohiaenaaDoorBase
import Derived.Laws.IdiomStrings
namespace Go.Proofs.YtmafaioohiaenaaDoor
open Go.RowKit
set_option linter.unusedVariables false
set_option maxRecDepth 20000

/-- What a digit stands for; 16: it is none. -/
def digit (c : UInt8) : Nat := if 48 ≤ c.toNat ∧ c.toNat ≤ 57 then c.toNat - 48 else if 97 ≤ c.toNat ∧ c.toNat ≤ 102 then c.toNat - 87 else 16

def digVal (c : UInt8) : Nat := if digit c < 16 then digit c else 0
def digOk (c : UInt8) : Bool := decide (digit c < 16)

theorem bytes_at (s : St) (i : Nat) (h : i < 32) : s.bytes[i]? = some (UInt8.ofNat ([s.a, s.b, s.c, s.d, s.e, s.f, s.g, s.h].getD (i / 4) 0 / 256 ^ (3 - i % 4))) := by
  have e : s.bytes = (List.range 32).map fun i => UInt8.ofNat ([s.a, s.b, s.c, s.d, s.e, s.f, s.g, s.h].getD (i / 4) 0 / 256 ^ (3 - i % 4)) := by
    simp [St.bytes, be, List.range_succ]
  rw [e, List.getElem?_map, List.getElem?_range h]
  rfl

/-- One byte more is written. -/
theorem fill_step (bs : List UInt8) (n k : Nat) (hl : bs.length = n) (hk : k < n) (u : UInt8) (hu : bs[k]? = some u) :
    ((bs.take k ++ List.replicate (n - k) 0).map by8).toArray.setIfInBounds k (by8 u) = ((bs.take (k + 1) ++ List.replicate (n - (k + 1)) 0).map by8).toArray := by
  have hkl : (bs.take k).length = k := by simp; omega
  have hg : bs[k]'(by omega) = u := by rw [List.getElem?_eq_getElem (by omega)] at hu; exact Option.some.inj hu
  rw [List.setIfInBounds_toArray, ← List.map_set, List.set_append_right _ _ (by omega), hkl, Nat.sub_self, show n - k = (n - (k + 1)) + 1 by omega, List.replicate_succ, List.set_cons_zero, List.take_succ_eq_append_getElem (by omega), hg, List.append_assoc]
  rfl

theorem fill_cell (bs : List UInt8) (n k : Nat) (hl : bs.length = n) (hk : k < n) : ((bs.take k ++ List.replicate (n - k) 0).map by8).toArray[k]? = some (.int .u8 0) := by
  have hkl : (bs.take k).length = k := by simp; omega
  rw [List.getElem?_toArray, List.getElem?_map, List.getElem?_append_right (by omega), hkl, Nat.sub_self, show n - k = (n - (k + 1)) + 1 by omega, List.replicate_succ]
  rfl

/-- Three blocks, one behind the other. -/
theorem three_new (w : World) (o o' o'' : Obj) : (((w.alloc o).alloc o').alloc o'').heap[w.heap.size + 2]? = some o'' ∧ (((w.alloc o).alloc o').alloc o'').heap[w.heap.size + 1]? = some o' ∧ (((w.alloc o).alloc o').alloc o'').heap[w.heap.size]? = some o ∧ Below w.heap.size w (((w.alloc o).alloc o').alloc o'') := by
  obtain ⟨h1, h2, h3⟩ := two_new w o o'
  have e : ((w.alloc o).alloc o').heap.size = w.heap.size + 2 := by show ((w.heap.push o).push o').size = _; simp
  refine ⟨?_, ?_, ?_, h3.alloc (by omega) _⟩
  · rw [← e]; exact heap_alloc_new _ _
  · rw [heap_alloc_old _ _ (by omega)]; exact h1
  · rw [heap_alloc_old _ _ (by omega)]; exact h2

set_option maxHeartbeats 4000000 in
theorem bytes_any (a b c d e f g h : Nat) (w : World) (hok : St.Ok ⟨a, b, c, d, e, f, g, h⟩) :
    Calls Tryd.prog 76 #[.agg #[.int .u32 a, .int .u32 b, .int .u32 c, .int .u32 d, .int .u32 e, .int .u32 f, .int .u32 g, .int .u32 h]] w fun e' w' => e' = .returned (.agg ((St.bytes ⟨a, b, c, d, e, f, g, h⟩).map by8).toArray) ∧ Below w.heap.size w w' := by
  go_enter Tryd.func76, Tryd.ntmps76
  go_wp2_with fail
  obtain ⟨b2, b1, b0, hbel⟩ := three_new w (.cells #[.int .u32 a, .int .u32 b, .int .u32 c, .int .u32 d, .int .u32 e, .int .u32 f, .int .u32 g, .int .u32 h] 112) (.cells (List.replicate 32 (.int .u8 0)).toArray 23) (.cells (List.replicate 32 (.int .u8 0)).toArray 23)
  simp only [List.replicate_succ, List.replicate_zero] at b2 b1 b0 hbel
  generalize World.alloc _ _ = w0 at *
  have HOK := hid hok
  have hsb : (St.bytes ⟨a, b, c, d, e, f, g, h⟩).length = 32 := St.bytes_length _
  have HAT : Hid (∀ i, i < 32 → (St.bytes ⟨a, b, c, d, e, f, g, h⟩)[i]? = some (UInt8.ofNat ([a, b, c, d, e, f, g, h].getD (i / 4) 0 / 256 ^ (3 - i % 4)))) := hid (bytes_at ⟨a, b, c, d, e, f, g, h⟩)
  have HLT : Hid (∀ i, [a, b, c, d, e, f, g, h].getD i 0 < 4294967296) := hid (by
    obtain ⟨o1, o2, o3, o4, o5, o6, o7, o8⟩ := hok
    exact getD_lt (by intro x hx; simp at hx o1 o2 o3 o4 o5 o6 o7 o8; rcases hx with h | h | h | h | h | h | h | h <;> rw [h] <;> assumption))
  have HC : Hid (∀ i, i < 8 → (#[Value.int .u32 a, .int .u32 b, .int .u32 c, .int .u32 d, .int .u32 e, .int .u32 f, .int .u32 g, .int .u32 h] : Array Value)[i]? = some (.int .u32 ([a, b, c, d, e, f, g, h].getD i 0 : Nat))) := hid (by
    intro i hi
    match i, hi with
    | 0, _ => rfl
    | 1, _ => rfl
    | 2, _ => rfl
    | 3, _ => rfl
    | 4, _ => rfl
    | 5, _ => rfl
    | 6, _ => rfl
    | 7, _ => rfl)
  generalize hbs : St.bytes ⟨a, b, c, d, e, f, g, h⟩ = bs at *
  have HBS := hid hbs
  clear hbs
  generalize [a, b, c, d, e, f, g, h] = ws at *
  generalize (#[Value.int .u32 a, .int .u32 b, .int .u32 c, .int .u32 d, .int .u32 e, .int .u32 f, .int .u32 g, .int .u32 h] : Array Value) = WS at *
  clear hok HOK
  have HB1 : Hid (w0.heap[w.heap.size + 1]? = _) := hid b1
  have HB2 : Hid (w0.heap[w.heap.size + 2]? = some (.cells (((bs.take 0 ++ List.replicate 32 0).map by8).toArray) 23 (0, 0))) := hid b2
  have HB0 := hid b0
  clear b0 b1 b2
  go_loopw [6] (fun i wr => ∃ k : Nat, k ≤ 32 ∧ i = .int .i64 k ∧ wr.heap[w.heap.size + 2]? = some (.cells (((bs.take k ++ List.replicate (32 - k) 0).map by8).toArray) 23 (0, 0)) ∧ wr.heap[w.heap.size + 1]? = w0.heap[w.heap.size + 1]? ∧ wr.heap[w.heap.size]? = w0.heap[w.heap.size]? ∧ Below w.heap.size w wr) (fun i _ => 32 - (intOf i).toNat)
  case atStart => exact ⟨0, Nat.zero_le _, rfl, HB2.out, rfl, rfl, hbel⟩
  case round =>
    obtain ⟨k, hk, rfl, r2, r1, r0, hbr⟩ := hrel
    by_cases hlt : k < 32
    · have hc1 := (cell_of_row wr _ (k / 4) _ _ _ (r0.trans HB0.out)).trans (HC.out (k / 4) (by omega))
      have hfz : wr.frozen? ⟨w.heap.size + 2, k, none⟩ = false := frozen_of_row wr _ _ _ _ r2
      have hc2 := (cell_of_row wr _ _ _ _ _ r2).trans (fill_cell bs 32 k hsb hlt)
      have HS := hid (HAT.out k hlt)
      have hwl := HLT.out (k / 4)
      have HR2 := hid r2
      have HR1 := hid r1
      have HR0 := hid r0
      have x4 : (k : Int) < 32 := by omega
      clear r2 r1 r0
      generalize ws.getD (k / 4) 0 = x at *
      go_wp2
      go_roundw
      case rel =>
        refine ⟨k + 1, by omega, by go_num, ?_, ?_, ?_, hbr.setCell (p := ⟨w.heap.size + 1 + 1, k, none⟩) (by simp; omega) _⟩
        · rw [by8_shr, ← fill_step bs 32 k hsb hlt _ HS.out]
          exact heap_setCell_same wr _ _ _ _ _ HR2.out
        · rw [← HR1.out]
          exact heap_setCell_other wr _ _ _ (by simp)
        · rw [← HR0.out]
          exact heap_setCell_other wr _ _ _ (by simp; omega)
      case measure => simp [intOf]; omega
    · have hk32 : k = 32 := by omega
      obtain ⟨A, hA⟩ : ∃ A, A = (bs.map by8).toArray := ⟨_, rfl⟩
      rw [hk32, show bs.take 32 ++ List.replicate (32 - 32) 0 = bs by rw [List.take_of_length_le (by omega)]; simp, ← hA] at r2
      have hAs : A.size = 32 := by rw [hA]; simpa using hsb
      have hA1 : A.all (·.oneCell') = true := by rw [hA]; simp [by8, Value.oneCell']
      have HA := hid hA
      have HR2 := hid r2
      have HR1 := hid (r1.trans HB1.out)
      have HI := hid (show (Tryd.prog.info? 23).map (·.size) = some A.size by rw [hAs]; kernel_rfl)
      have HZ := hid (show (32 : Nat) = A.size from hAs.symm)
      clear hk32 hA r2 r1 r0 hAs hsb HB0 HB1 HB2 HC HLT HAT
      go_wp2_with (first
        | (refine wpList_load_row rfl 23 (.tmp 3) rfl (w.heap.size + 1 + 1) rfl 23 A (0, 0) _ HR2.out Tryd.underlying23 rfl HI.out ?_)
        | (refine wpList_store_row rfl 23 (.tmp 2) (.tmp 23) rfl (w.heap.size + 1) A rfl rfl 23 _ HR1.out HI.out HZ.out hA1 ?_)
        | (refine bodyPost_ret (v := .agg A) (results_cell_row rfl _ _ (w.heap.size + 1) 23 A (0, 0) _ rfl (setRow_heap _ _ _ _ _ _ HR1.out) Tryd.underlying23 rfl HI.out) rfl ⟨by rw [HA.out, HBS.out], below_setRow hbr (Nat.le_succ _) _⟩))
end Go.Proofs.YtmafaioohiaenaaDoor

/- Contract of digest's ending. -/

namespace Go.Proofs.YtmafaioohiaenaaDoor
open Go.RowKit
set_option linter.unusedVariables false
set_option maxRecDepth 20000

/-- Zero bytes, as cells. -/
def zeroCells (n : Nat) : List Value := List.replicate n (.int .u8 0)

theorem made_zero (n : Nat) : madeCells #[Value.int .u8 0] n = (zeroCells n).toArray := by
  apply Array.ext'
  rw [toList_madeCells_one]
  rfl

/-- The ending, k bytes of the number written. -/
def endPart (bs : List UInt8) (n size k : Nat) : List UInt8 := bs ++ [128] ++ List.replicate (size - 1 - bs.length - k) 0 ++ (be (8 * n) 8).drop (8 - k)

theorem endPart_length (bs : List UInt8) (n size k : Nat) (h : bs.length + 9 ≤ size) (hk : k ≤ 8) : (endPart bs n size k).length = size := by
  simp [endPart, be_length]
  omega

theorem end_start (bs : List UInt8) (n size : Nat) (g : Nat) (t : TypeId) (w : World) (h : bs.length + 9 ≤ size) (hg : w.heap[g]? = some (.cells ((bs ++ List.replicate (size - bs.length) 0).map by8).toArray t (0, 0))) :
    (w.setCell ⟨g, bs.length, none⟩ (.int .u8 128)).heap[g]? = some (.cells ((endPart bs n size 0).map by8).toArray t (0, 0)) := by
  rw [heap_setCell_same w _ _ _ _ _ hg]
  congr 2
  rw [List.setIfInBounds_toArray]
  congr 1
  rw [show (Value.int .u8 128) = by8 128 from rfl, ← List.map_set, List.set_append_right _ _ (Nat.le_refl _), Nat.sub_self, show size - bs.length = (size - 1 - bs.length) + 1 by omega, List.replicate_succ, List.set_cons_zero]
  simp [endPart, be_length]

theorem end_cell (bs : List UInt8) (n size k : Nat) (h : bs.length + 9 ≤ size) (hk : k < 8) : ((endPart bs n size k).map by8).toArray[size - 1 - k]? = some (.int .u8 0) := by
  have e : size - 1 - bs.length - k = (size - 1 - bs.length - (k + 1)) + 1 := by omega
  have e2 : endPart bs n size k = (bs ++ [128] ++ List.replicate (size - 1 - bs.length - (k + 1)) 0) ++ (0 :: (be (8 * n) 8).drop (8 - k)) := by
    rw [endPart, e, List.replicate_succ', List.append_assoc, List.append_assoc, List.append_assoc, List.append_assoc, List.append_assoc]
    rfl
  rw [List.getElem?_toArray, List.getElem?_map, e2, List.getElem?_append_right (by simp; omega)]
  have e3 : size - 1 - k - (bs ++ [128] ++ List.replicate (size - 1 - bs.length - (k + 1)) 0).length = 0 := by simp; omega
  rw [e3]
  rfl

theorem end_step (bs : List UInt8) (n size k : Nat) (h : bs.length + 9 ≤ size) (hk : k < 8) :
    ((endPart bs n size k).map by8).toArray.setIfInBounds (size - 1 - k) (by8 (UInt8.ofNat (8 * n / 256 ^ k))) = ((endPart bs n size (k + 1)).map by8).toArray := by
  have e : size - 1 - bs.length - k = (size - 1 - bs.length - (k + 1)) + 1 := by omega
  have e2 : endPart bs n size k = (bs ++ [128] ++ List.replicate (size - 1 - bs.length - (k + 1)) 0) ++ (0 :: (be (8 * n) 8).drop (8 - k)) := by
    rw [endPart, e, List.replicate_succ', List.append_assoc, List.append_assoc, List.append_assoc, List.append_assoc, List.append_assoc]
    rfl
  have e3 : size - 1 - k - (bs ++ [128] ++ List.replicate (size - 1 - bs.length - (k + 1)) 0).length = 0 := by simp; omega
  have e4 : (be (8 * n) 8).drop (8 - (k + 1)) = UInt8.ofNat (8 * n / 256 ^ k) :: (be (8 * n) 8).drop (8 - k) := by
    match k, hk with
    | 0, _ => simp [be]
    | 1, _ => simp [be]
    | 2, _ => simp [be]
    | 3, _ => simp [be]
    | 4, _ => simp [be]
    | 5, _ => simp [be]
    | 6, _ => simp [be]
    | 7, _ => simp [be]
  rw [List.setIfInBounds_toArray, ← List.map_set, e2, List.set_append_right _ _ (by simp; omega), e3, List.set_cons_zero, endPart, e4]

theorem end_done (bs : List UInt8) (n size : Nat) (h : (bs.length ≤ 55 ∧ size = 64) ∨ (56 ≤ bs.length ∧ size = 128)) (hl : bs.length < 64) : endPart bs n size 8 = ending bs n := by
  rw [endPart, ending]
  congr 2
  · congr 2
    omega

/-- A block that is known whole is owned. -/
theorem owns_full {w : World} {B g n : Nat} {xs : List Value} {e : TypeId} (hg : w.heap[g]? = some (.cells xs.toArray e (0, 0))) (hB : B ≤ g) (hn : xs.length = n) (hm : n ≤ maxLen) :
    w.ownsRow B e 1 (.slice (some ⟨g, 0, none⟩) n n) n xs := by
  refine ⟨by simpa using hn, .inr ⟨g, n, _, rfl, hB, hg, Nat.le_refl _, hm, by simp [hn], ?_⟩⟩
  rw [List.toList_toArray]
  exact List.take_of_length_le (by omega)

theorem num_byte (n k : Nat) : Value.int .u8 ((n : Int) * 8 / 2 ^ (8 * k) % 256) = by8 (UInt8.ofNat (8 * n / 256 ^ k)) := by
  rw [← by8_shr, show ((8 * n : Nat) : Int) = (n : Int) * 8 from by omega]

set_option maxHeartbeats 4000000 in
theorem ending_some (size : Nat) (a : Option Addr) (c : Nat) (bs : List UInt8) (n : Nat) (B : Nat) (w : World) (hB : B ≤ w.heap.size) (hsh : Shows B w (.slice a bs.length c) bs) (hl : bs.length < 64) (hn : n ≤ 1099511627776)
    (hs : (bs.length ≤ 55 ∧ size = 64) ∨ (56 ≤ bs.length ∧ size = 128)) :
    Calls Tryd.prog 75 #[.slice a bs.length c, .int .i64 n] w fun e w' => ∃ v', e = .returned v' ∧ w'.ownsRow w.heap.size 5 1 v' size ((ending bs n).map by8) ∧ Below w.heap.size w w' := by
  obtain ⟨i0, hi, hz0, hz1, hz2⟩ := info_parts Tryd.infoU8
  have hsh0 := hsh
  obtain ⟨a', c', hv, h1, h2, hnn, h3⟩ := hsh
  simp only [Value.slice.injEq] at hv
  obtain ⟨rfl, _, rfl⟩ := hv
  have hmk : ∀ u : World, (Instr.makeSlice 24 (.int .i64 (size : Int)) (.int .i64 (size : Int))).run Tryd.prog u =
      .ok (.slice (some ⟨u.heap.size, 0, none⟩) size size) (u.alloc (.cells (zeroCells size).toArray 5)) := fun u => by
    have h := run_make (P := Tryd.prog) u 24 5 i0 (.int .u8 0) Tryd.underlying24 hi hz0 .i64 .i64 (size : Int) (size : Int) (by omega) (by omega) (by rw [hz2]; omega) (by omega)
    rw [hz1, Nat.mul_one, Int.toNat_natCast] at h
    rw [h]
    congr 3
    exact made_zero _
  have hinfo : (Tryd.prog.info? 5).map (·.size) = some 1 := by rw [hi]; simp [hz1]
  have hsh1 := hsh0.alloc hB (.cells (zeroCells size).toArray 5)
  have hnew : (w.alloc (.cells (zeroCells size).toArray 5)).heap[w.heap.size]? = some (.cells (zeroCells size).toArray 5 (0, 0)) := heap_alloc_new w _
  have hbn : Below w.heap.size w (w.alloc (.cells (zeroCells size).toArray 5)) := (Below.refl _ _).alloc (Nat.le_refl _) _
  obtain ⟨w2, hcp, hg2, hb2⟩ : ∃ w2, (Builtin.copy_ #[24, 24] 3 #[.slice (some ⟨w.heap.size, 0, none⟩) size size, .slice a bs.length c]).run Tryd.prog (w.alloc (.cells (zeroCells size).toArray 5)) = .ok (goInt bs.length) w2 ∧
      w2.heap[w.heap.size]? = some (.cells ((bs ++ List.replicate (size - bs.length) 0).map by8).toArray 5 (0, 0)) ∧ Below w.heap.size w w2 := by
    by_cases hb : bs = []
    · subst hb
      refine ⟨_, run_copy_none (P := Tryd.prog) _ 24 24 3 5 _ a size size 0 c Tryd.underlying24 hinfo (by simp), ?_, hbn⟩
      rw [hnew]
      simp [zeroCells, by8]
    · obtain ⟨b, off, rfl, hlt, hc⟩ := h3 hb
      have hr := run_copy_row (P := Tryd.prog) (w.alloc (.cells (zeroCells size).toArray 5)) 24 24 3 5 w.heap.size 0 size size ⟨b, off, none⟩ bs.length c (zeroCells size).toArray 5 (bs.map by8) Tryd.underlying24 hinfo hnew (by rw [List.length_map]; show _ = min _ _; omega) (by8_cells hsh1).2 (by simp [zeroCells]; omega) (by8_one bs)
      rw [List.length_map] at hr
      refine ⟨_, hr, ?_, below_setRow hbn (Nat.le_refl _) _⟩
      rw [setRow_heap _ _ _ _ _ _ hnew]
      simp [zeroCells, by8]
  clear hsh1 hnew hbn
  have hrest : List.map by8 (bs ++ List.replicate (size - bs.length) 0) = List.map by8 (bs ++ 0 :: List.replicate (size - bs.length - 1) 0) := by
    rw [show size - bs.length = (size - bs.length - 1) + 1 by omega, List.replicate_succ]
    simp
  have hcell : w2.cell? ⟨w.heap.size, bs.length, none⟩ = some (.int .u8 0) := by
    rw [cell_of_row w2 _ _ _ _ _ hg2, hrest]
    simp [by8]
  have hfz : w2.frozen? ⟨w.heap.size, bs.length, none⟩ = false := frozen_of_row w2 _ _ _ _ hg2
  have HG := hid hg2
  clear hg2 hrest h3
  generalize hzc : (zeroCells size).toArray = Z at *
  have HZ := hid hzc
  clear hzc
  go_enter Tryd.func75, Tryd.ntmps75
  rcases hs with ⟨hs1, rfl⟩ | ⟨hs1, rfl⟩
  · replace hmk : ∀ u : World, (Instr.makeSlice 24 (.int .i64 64) (.int .i64 64)).run Tryd.prog u = .ok (.slice (some ⟨u.heap.size, 0, none⟩) 64 64) (u.alloc (.cells Z 5)) := hmk
    go_wp2
    go_loopw [28] (fun i wr => ∃ k : Nat, k ≤ 8 ∧ i = .int .i64 k ∧ wr.heap[w.heap.size]? = some (.cells ((endPart bs n 64 k).map by8).toArray 5 (0, 0)) ∧ Below w.heap.size w wr) (fun i _ => 8 - (intOf i).toNat)
    case atStart => exact ⟨0, Nat.zero_le _, rfl, end_start bs n 64 _ _ w2 (by omega) HG.out, hb2.setCell (Nat.le_refl _) _⟩
    case round =>
      obtain ⟨k, hk, rfl, hrow, hbr⟩ := hrel
      by_cases hlt : k < 8
      · have hc2 := (cell_of_row wr _ _ _ _ _ hrow).trans (end_cell bs n 64 k (by omega) hlt)
        have hfz2 : wr.frozen? ⟨w.heap.size, 64 - 1 - k, none⟩ = false := frozen_of_row wr _ _ _ _ hrow
        have HR := hid hrow
        have HS := hid (end_step bs n 64 k (by omega) hlt)
        clear hrow hcell hfz hcp
        go_wp2
        go_roundw
        case rel =>
          refine ⟨k + 1, by omega, by go_num, ?_, hbr.setCell (Nat.le_refl _) _⟩
          rw [num_byte]
          refine (heap_setCell_same wr _ _ _ _ _ HR.out).trans ?_
          rw [← HS.out]
        case measure => simp [intOf]; omega
      · have hk8 : k = 8 := by omega
        rw [hk8, end_done bs n 64 (by omega) hl] at hrow
        have HL : Hid (((ending bs n).map by8).length = 64) := hid (by rw [List.length_map, ← end_done bs n 64 (by omega) hl]; exact endPart_length bs n 64 8 (by omega) (by omega))
        have HR := hid hrow
        clear hrow hk8
        go_wp2
        go_ret
        exact ⟨_, rfl, owns_full HR.out (Nat.le_refl _) HL.out (by unfold maxLen; omega), hbr⟩
  · replace hmk : ∀ u : World, (Instr.makeSlice 24 (.int .i64 128) (.int .i64 128)).run Tryd.prog u = .ok (.slice (some ⟨u.heap.size, 0, none⟩) 128 128) (u.alloc (.cells Z 5)) := hmk
    go_wp2
    go_loopw [28] (fun i wr => ∃ k : Nat, k ≤ 8 ∧ i = .int .i64 k ∧ wr.heap[w.heap.size]? = some (.cells ((endPart bs n 128 k).map by8).toArray 5 (0, 0)) ∧ Below w.heap.size w wr) (fun i _ => 8 - (intOf i).toNat)
    case atStart => exact ⟨0, Nat.zero_le _, rfl, end_start bs n 128 _ _ w2 (by omega) HG.out, hb2.setCell (Nat.le_refl _) _⟩
    case round =>
      obtain ⟨k, hk, rfl, hrow, hbr⟩ := hrel
      by_cases hlt : k < 8
      · have hc2 := (cell_of_row wr _ _ _ _ _ hrow).trans (end_cell bs n 128 k (by omega) hlt)
        have hfz2 : wr.frozen? ⟨w.heap.size, 128 - 1 - k, none⟩ = false := frozen_of_row wr _ _ _ _ hrow
        have HR := hid hrow
        have HS := hid (end_step bs n 128 k (by omega) hlt)
        clear hrow hcell hfz hcp
        go_wp2
        go_roundw
        case rel =>
          refine ⟨k + 1, by omega, by go_num, ?_, hbr.setCell (Nat.le_refl _) _⟩
          rw [num_byte]
          refine (heap_setCell_same wr _ _ _ _ _ HR.out).trans ?_
          rw [← HS.out]
        case measure => simp [intOf]; omega
      · have hk8 : k = 8 := by omega
        rw [hk8, end_done bs n 128 (by omega) hl] at hrow
        have HL : Hid (((ending bs n).map by8).length = 128) := hid (by rw [List.length_map, ← end_done bs n 128 (by omega) hl]; exact endPart_length bs n 128 8 (by omega) (by omega))
        have HR := hid hrow
        clear hrow hk8
        go_wp2
        go_ret
        exact ⟨_, rfl, owns_full HR.out (Nat.le_refl _) HL.out (by unfold maxLen; omega), hbr⟩

theorem ending_any (B : Nat) (v : Value) (bs : List UInt8) (n : Nat) (w : World) (hB : B ≤ w.heap.size) (hsh : Shows B w v bs) (hl : bs.length < 64) (hn : n ≤ 1099511627776) :
    Calls Tryd.prog 75 #[v, .int .i64 n] w fun e w' => ∃ v', e = .returned v' ∧ w'.ownsRow w.heap.size 5 1 v' (ending bs n).length ((ending bs n).map by8) ∧ Below w.heap.size w w' := by
  have hsh0 := hsh
  obtain ⟨a, c, rfl, h1, h2, hnn, h3⟩ := hsh
  by_cases h : bs.length ≤ 55
  · have e : (ending bs n).length = 64 := by rw [← end_done bs n 64 (by omega) hl]; exact endPart_length bs n 64 8 (by omega) (by omega)
    rw [e]
    exact ending_some 64 a c bs n B w hB hsh0 hl hn (by omega)
  · have e : (ending bs n).length = 128 := by rw [← end_done bs n 128 (by omega) hl]; exact endPart_length bs n 128 8 (by omega) (by omega)
    rw [e]
    exact ending_some 128 a c bs n B w hB hsh0 hl hn (by omega)

theorem ending_length (bs : List UInt8) (n : Nat) (hl : bs.length < 64) : (ending bs n).length = if bs.length ≤ 55 then 64 else 128 := by
  by_cases h : bs.length ≤ 55
  · rw [if_pos h, ← end_done bs n 64 (by omega) hl]; exact endPart_length bs n 64 8 (by omega) (by omega)
  · rw [if_neg h, ← end_done bs n 128 (by omega) hl]; exact endPart_length bs n 128 8 (by omega) (by omega)
end Go.Proofs.YtmafaioohiaenaaDoor

/- Contract of digest.Raw. -/

namespace Go.Proofs.YtmafaioohiaenaaDoor
open Go.RowKit
set_option linter.unusedVariables false
set_option maxRecDepth 20000

/-- WHAT THE PACKAGE'S TWO TABLES HOLD. -/
def Tables (w : World) : Prop :=
  ∃ t u, w.heap[0]? = some (.cells start.cells t (0, 0)) ∧ w.heap[1]? = some (.cells (cubes.map w32).toArray u (0, 0))

theorem Tables.lt {w : World} (h : Tables w) : 1 < w.heap.size := by
  obtain ⟨t, u, h1, h2⟩ := h
  exact block_lt h2

theorem Tables.below {w w' : World} {B : Nat} (h : Tables w) (hb : Below B w w') (hB : 1 + 1 ≤ B) : Tables w' := by
  obtain ⟨t, u, h1, h2⟩ := h
  exact ⟨t, u, (hb.block 0 (by omega)).trans h1, (hb.block 1 (by omega)).trans h2⟩

theorem padded_split (bs : List UInt8) (k : Nat) (h1 : 64 * k ≤ bs.length) (h2 : bs.length < 64 * k + 64) : padded bs = bs.take (64 * k) ++ ending (bs.drop (64 * k)) bs.length := by
  have e : (bs.drop (64 * k)).length = bs.length % 64 := by simp; omega
  rw [padded, ending, e]
  simp only [← List.append_assoc, List.take_append_drop]

theorem padded_length (bs : List UInt8) (k : Nat) (h1 : 64 * k ≤ bs.length) (h2 : bs.length < 64 * k + 64) : (padded bs).length = 64 * k + (ending (bs.drop (64 * k)) bs.length).length := by
  rw [padded_split bs k h1 h2]
  simp
  omega

theorem piece_in (bs : List UInt8) (k : Nat) (h : 64 * k + 64 ≤ bs.length) : ((padded bs).drop (64 * k)).take 64 = (bs.drop (64 * k)).take 64 := by
  rw [padded, List.append_assoc, List.append_assoc, List.drop_append_of_le_length (by omega), List.take_append_of_le_length (by simp; omega)]

theorem piece_end (bs : List UInt8) (k j : Nat) (h1 : 64 * k ≤ bs.length) (h2 : bs.length < 64 * k + 64) :
    ((padded bs).drop (64 * (k + j))).take 64 = ((ending (bs.drop (64 * k)) bs.length).drop (64 * j)).take 64 := by
  have e : (bs.take (64 * k)).length = 64 * k := by simp; omega
  rw [padded_split bs k h1 h2, List.drop_append, e, List.drop_of_length_le (by omega), List.nil_append, show 64 * (k + j) - 64 * k = 64 * j by omega]

/-- How long a slice is. -/
def sliceLen : Value → Nat
  | .slice _ n _ => n
  | _ => 0

/-- Eight cells of a block. -/
theorem eight {w : World} {g : Nat} {t : TypeId} {s : St} (h : w.heap[g]? = some (.cells s.cells t (0, 0))) :
    w.cell? ⟨g, 0, none⟩ = some (.int .u32 s.a) ∧ w.cell? ⟨g, 1, none⟩ = some (.int .u32 s.b) ∧ w.cell? ⟨g, 2, none⟩ = some (.int .u32 s.c) ∧ w.cell? ⟨g, 3, none⟩ = some (.int .u32 s.d) ∧
    w.cell? ⟨g, 4, none⟩ = some (.int .u32 s.e) ∧ w.cell? ⟨g, 5, none⟩ = some (.int .u32 s.f) ∧ w.cell? ⟨g, 6, none⟩ = some (.int .u32 s.g) ∧ w.cell? ⟨g, 7, none⟩ = some (.int .u32 s.h) := by
  refine ⟨?_, ?_, ?_, ?_, ?_, ?_, ?_, ?_⟩ <;> rw [cell_of_row w _ _ _ _ _ h] <;> rfl

theorem cells_size (s s' : St) : s.cells.size = s'.cells.size := rfl

theorem cells_one (s : St) : s.cells.all (·.oneCell') = true := one8 _ _ _ _ _ _ _ _

theorem setRow_other (w : World) (g k : Nat) (cs : Array Value) (h : k ≠ g) : (w.setRow g cs).heap[k]? = w.heap[k]? := by
  simp only [World.setRow]
  rw [Array.getElem?_modify, if_neg (fun e => h e.symm)]

/-- One block is written anew: the block, the others, what is below. -/
theorem setRow_facts {w : World} {g : Nat} {old cs : Array Value} {t : TypeId} (h : w.heap[g]? = some (.cells old t (0, 0))) :
    (w.setRow g cs).heap[g]? = some (.cells cs t (0, 0)) ∧ (∀ k, k < g → (w.setRow g cs).heap[k]? = w.heap[k]?) ∧ (∀ B w0, Below B w0 w → B ≤ g → Below B w0 (w.setRow g cs)) ∧ (w.setRow g cs).heap.size = w.heap.size :=
  ⟨setRow_heap _ _ _ _ _ _ h, fun k hk => (below_setRow (Below.refl g w) (Nat.le_refl _) cs).block k hk, fun B w0 hb hB => below_setRow hb hB cs, by simp [World.setRow]⟩

set_option maxRecDepth 100000 in
set_option maxHeartbeats 8000000 in
theorem raw_any (B : Nat) (v : Value) (bs : List UInt8) (w : World) (hB : B ≤ w.heap.size) (hsh : Shows B w v bs) (hl : bs.length ≤ 1099511627776) (ht : Tables w) :
    Calls Tryd.prog 33 #[v] w fun e w' => e = .returned (.agg ((sha bs).map by8).toArray) ∧ Below w.heap.size w w' := by
  have hsh0 := hsh
  obtain ⟨a, c, rfl, h1, h2, hn, h3⟩ := hsh
  have HT := hid ht
  have hw1 := ht.lt
  obtain ⟨tt, uu, ht0, _⟩ := ht
  have HT0 := hid ht0
  clear ht0
  go_enter Tryd.func33, Tryd.ntmps33
  obtain ⟨z32, hz32⟩ : ∃ z : Array Value, z = (List.replicate 32 (.int .u8 0)).toArray := ⟨_, rfl⟩
  go_wp2_with (first
    | (refine wpList_load_row rfl 112 (.global 0) rfl 0 rfl tt start.cells (0, 0) _ ((heap_alloc_old w _ (by omega)).trans HT0.out) Tryd.underlying112 rfl Tryd.infoWords ?_)
    | (refine wpList_store_row rfl 112 (.tmp 3) (.tmp 7) rfl (w.heap.size + 1) start.cells rfl rfl 112 _ (two_new w _ _).1 Tryd.infoWords (by rfl) (cells_one start) ?_))
  obtain ⟨n1, n0, nb⟩ := two_new w (.cells #[.int .u8 0, .int .u8 0, .int .u8 0, .int .u8 0, .int .u8 0, .int .u8 0, .int .u8 0, .int .u8 0, .int .u8 0, .int .u8 0, .int .u8 0, .int .u8 0, .int .u8 0, .int .u8 0, .int .u8 0, .int .u8 0, .int .u8 0, .int .u8 0, .int .u8 0, .int .u8 0, .int .u8 0, .int .u8 0, .int .u8 0, .int .u8 0, .int .u8 0, .int .u8 0, .int .u8 0, .int .u8 0, .int .u8 0, .int .u8 0, .int .u8 0, .int .u8 0] 23) (.cells #[.int .u32 0, .int .u32 0, .int .u32 0, .int .u32 0, .int .u32 0, .int .u32 0, .int .u32 0, .int .u32 0] 112)
  obtain ⟨m1, m2, m3, m4⟩ := setRow_facts (cs := start.cells) n1
  replace nb := m3 _ _ nb (Nat.le_succ _)
  replace n0 := (m2 _ (Nat.lt_succ_self _)).trans n0
  clear m2 m3 m4 n1
  generalize World.setRow _ (w.heap.size + 1) start.cells = w0 at *
  have HW1 := hid m1
  have HW0 : Hid (∃ z : Array Value, z.size = 32 ∧ w0.heap[w.heap.size]? = some (.cells z 23 (0, 0))) := hid ⟨_, by rfl, n0⟩
  clear m1 n0 hz32
  go_loopw [4] (fun x4 wr => ∃ (k : Nat), 64 * k ≤ bs.length ∧ Shows B wr x4 (bs.drop (64 * k)) ∧ Hid (wr.heap[w.heap.size + 1]? = some (.cells (works (padded bs) start k).cells 112 (0, 0))) ∧ Hid (∃ z : Array Value, z.size = 32 ∧ wr.heap[w.heap.size]? = some (.cells z 23 (0, 0))) ∧ Below w.heap.size w wr) (fun x4 _ => sliceLen x4)
  case atStart => exact ⟨0, Nat.zero_le _, hsh0.below (nb.mono hB), HW1, HW0, nb⟩
  case round =>
    clear HW1 HW0 nb
    obtain ⟨k, hk, hsh4, HR1, HR0, hbr⟩ := hrel
    have hsh4' := hsh4
    obtain ⟨a4, c4, rfl, g1, g2, gn, g3⟩ := hsh4
    have hwok := works_ok (padded bs) start_ok k
    obtain ⟨o0, o1, o2, o3, o4, o5, o6, o7⟩ := eight HR1.out
    have hlen : (bs.drop (64 * k)).length = bs.length - 64 * k := by simp
    have hsz := hbr.size
    by_cases hlt : 64 ≤ (bs.drop (64 * k)).length
    · obtain ⟨b4, off4, rfl, hb4, hc4⟩ := g3 (by intro e; simp [e] at hlt)
      have HP := hid (hsh4'.take 64 hlt)
      have HPL : Hid (((bs.drop (64 * k)).take 64).length = 64) := hid (by simp; omega)
      have HQ := hid (show works (padded bs) start (k + 1) = work (works (padded bs) start k) ((bs.drop (64 * k)).take 64) by rw [works, piece_in bs k (by omega)])
      have HD : Hid (c4 ≠ 64 → Shows B wr (.slice (some ⟨b4, off4 + 64, none⟩) ((bs.drop (64 * k)).length - 64) (c4 - 64)) (bs.drop (64 * (k + 1)))) := hid (fun hne => by
        rcases Nat.lt_or_ge 64 (bs.drop (64 * k)).length with hlt2 | hlt2
        · have := hsh4'.drop 64 hlt2
          rwa [List.drop_drop, show 64 * k + 64 = 64 * (k + 1) by omega] at this
        · have e : (bs.drop (64 * k)).length - 64 = 0 := by omega
          rw [e, List.drop_of_length_le (show bs.length ≤ 64 * (k + 1) by omega)]
          exact Shows.empty B wr _ _ (by omega))
      have HD0 : Hid (c4 = 64 → Shows B wr (.slice (some ⟨b4, off4, none⟩) 0 0) (bs.drop (64 * (k + 1)))) := hid (fun he => by
        rw [List.drop_of_length_le (show bs.length ≤ 64 * (k + 1) by omega)]
        exact Shows.empty B wr _ _ (by unfold maxLen; omega))
      have i1 : (64 : Int) ≤ ((bs.drop (64 * k)).length : Int) := by omega
      have i2 : (64 : Int) ≤ (c4 : Int) := by omega
      obtain ⟨_, tk, _, hk2⟩ := HT.out.below hbr (by omega)
      have HT2 := hid hk2
      clear hk2
      clear hc4 g3 hsh4' gn
      generalize works (padded bs) start k = st at *
      generalize hpc : (bs.drop (64 * k)).take 64 = pc at *
      have HPC := hid hpc
      clear hpc
      have HLN := hid hlen
      clear hlen
      generalize hL : (bs.drop (64 * k)).length = L at *
      have HLL := hid hL
      clear hL
      go_wp2_with fail
      refine wp_region_still_tail 3 (by kernel_rfl) (by kernel_rfl) ?_
      simp only [List.take_succ_cons, List.take_zero, List.drop_succ_cons, List.drop_zero]
      repeat still_step
      try refine wpStill_nil ?_
      go_wp2_with fail
      refine (with_any B st.a st.b st.c st.d st.e st.f st.g st.h _ pc wr.drew (Nat.le_trans hB hsz) hwok (HP.out.below (Below.refl _ _).drew) HPL.out tk HT2.out).mono ?_
      rintro e' w2 ⟨rfl, hb2⟩
      rw [show (⟨st.a, st.b, st.c, st.d, st.e, st.f, st.g, st.h⟩ : St) = st from rfl]
      generalize work st pc = st2 at *
      replace hb2 : Below wr.heap.size wr w2 := ⟨hb2.os, hb2.tape, hb2.output, hb2.size, hb2.block⟩
      replace HR1 := hid ((hb2.block _ (block_lt HR1.out)).trans HR1.out)
      replace HR0 : Hid (∃ z : Array Value, z.size = 32 ∧ w2.heap[w.heap.size]? = some (.cells z 23 (0, 0))) := hid (by obtain ⟨z, hz, hz2⟩ := HR0.out; exact ⟨z, hz, (hb2.block _ (block_lt hz2)).trans hz2⟩)
      replace hbr := hbr.trans (hb2.mono hsz)
      have HBW := hid (hb2.mono (Nat.le_trans hB hsz))
      clear o0 o1 o2 o3 o4 o5 o6 o7 hb2 hsz
      obtain ⟨m1, m2, m3, m4⟩ := setRow_facts (cs := st2.cells) HR1.out
      have HM1 := hid m1
      have HM0 : Hid (∃ z : Array Value, z.size = 32 ∧ (w2.setRow (w.heap.size + 1) st2.cells).heap[w.heap.size]? = some (.cells z 23 (0, 0))) := hid (by obtain ⟨z, hz, hz2⟩ := HR0.out; exact ⟨z, hz, (m2 _ (Nat.lt_succ_self _)).trans hz2⟩)
      have HMB := hid (m3 _ _ hbr (Nat.le_succ _))
      have HMW := hid (m3 _ _ HBW.out (by omega))
      clear m1 m2 m3 m4
      by_cases hc64 : c4 = 64
      · subst hc64
        go_wp2_with (refine wpList_store_row rfl 112 (.tmp 3) (.tmp 15) rfl (w.heap.size + 1) st2.cells rfl rfl 112 _ HR1.out Tryd.infoWords (cells_size _ _) (cells_one _) ?_)
        generalize World.setRow _ (w.heap.size + 1) _ = w3 at *
        refine ⟨⟨k + 1, by have := HLN.out; omega, (HD0.out (by first | trivial | rfl)).below HMW.out, by rw [HQ.out]; exact HM1, HM0, HMB.out⟩, by simp [sliceLen]; omega⟩
      · go_wp2_with (refine wpList_store_row rfl 112 (.tmp 3) (.tmp 15) rfl (w.heap.size + 1) st2.cells rfl rfl 112 _ HR1.out Tryd.infoWords (cells_size _ _) (cells_one _) ?_)
        generalize World.setRow _ (w.heap.size + 1) _ = w3 at *
        refine ⟨⟨k + 1, by have := HLN.out; omega, (HD.out hc64).below HMW.out, by rw [HQ.out]; exact HM1, HM0, HMB.out⟩, by simp [sliceLen]; omega⟩
    · have HTW := hid (HT.out.below hbr (by omega))
      have HPL := hid (padded_length bs k hk (by omega))
      have HPE : Hid (∀ j, ((padded bs).drop (64 * (k + j))).take 64 = ((ending (bs.drop (64 * k)) bs.length).drop (64 * j)).take 64) := hid (fun j => piece_end bs k j hk (by omega))
      have HEL := hid (ending_length (bs.drop (64 * k)) bs.length (by omega))
      have HEA := hid (ending_any B _ (bs.drop (64 * k)) bs.length wr (Nat.le_trans hB hsz) hsh4' (by omega) hl)
      clear g3 gn hsh4' o0 o1 o2 o3 o4 o5 o6 o7 hwok
      have HLN := hid hlen
      clear hlen
      generalize hL : (bs.drop (64 * k)).length = L at *
      have HLL := hid hL
      clear hL
      have hwr1 := block_lt HR1.out
      go_wp2_with fail
      refine HEA.out.mono ?_
      rintro e' w2 ⟨v', rfl, hown, hb2⟩
      replace HR1 := hid ((hb2.block _ (block_lt HR1.out)).trans HR1.out)
      replace HR0 : Hid (∃ z : Array Value, z.size = 32 ∧ w2.heap[w.heap.size]? = some (.cells z 23 (0, 0))) := hid (by obtain ⟨z, hz, hz2⟩ := HR0.out; exact ⟨z, hz, (hb2.block _ (block_lt hz2)).trans hz2⟩)
      replace hbr := hbr.trans (hb2.mono hsz)
      have HEL2 : Hid ((ending (bs.drop (64 * k)) bs.length).length = 64 ∨ (ending (bs.drop (64 * k)) bs.length).length = 128) := hid (by rw [HEL.out]; split <;> simp)
      clear HEA HEL
      generalize hE : ending (bs.drop (64 * k)) bs.length = E at *
      have HE := hid hE
      clear hE
      have hel := HEL2.out
      obtain ⟨hlenE, hown2⟩ := hown
      rcases hown2 with ⟨_, hzero⟩ | ⟨g, cap, cur, rfl, hBg, hg, hnc, hcm, hcs, htk⟩
      · omega
      have hgs : w.heap.size + 1 < g := by omega
      have HSH : Hid (∀ wx : World, wx.heap[g]? = some (.cells cur 5 (0, 0)) → Shows wx.heap.size wx (.slice (some ⟨g, 0, none⟩) E.length cap) E) := hid (fun wx hx => (shows_of_owns (B := wr.heap.size) (e := 5) ⟨hlenE, .inr ⟨g, cap, cur, rfl, hBg, hx, hnc, hcm, hcs, htk⟩⟩).2)
      have HG := hid hg
      have HB2 := hid hb2
      unfold maxLen at hcm
      clear hlenE hBg hg hcs htk hb2 hsz hwr1
      generalize hEn : E.length = EL at *
      have HEN := hid hEn
      clear hEn
      go_wp2_with fail
      go_loopw [6] (fun i wr => ∃ (at' j : Nat), i = .int .i64 at' ∧ at' ≤ EL ∧ Hid (at' = 64 * j) ∧ Hid (wr.heap[w.heap.size + 1]? = some (.cells (works (padded bs) start (k + j)).cells 112 (0, 0))) ∧ Hid (∃ z : Array Value, z.size = 32 ∧ wr.heap[w.heap.size]? = some (.cells z 23 (0, 0))) ∧ Hid (wr.heap[g]? = some (.cells cur 5 (0, 0))) ∧ Below w.heap.size w wr) (fun i _ => EL - (intOf i).toNat)
      case atStart => exact ⟨0, 0, rfl, Nat.zero_le _, rfl, HR1, HR0, HG, hbr⟩
      case round =>
        clear HR1 HR0 HG hbr
        rename_i wr0
        obtain ⟨at', j, rfl, hat, HAT, HR1, HR0, HG, hbr⟩ := hrel
        have hat2 := HAT.out
        have hsz := hbr.size
        obtain ⟨o0, o1, o2, o3, o4, o5, o6, o7⟩ := eight HR1.out
        have hwok := works_ok (padded bs) start_ok (k + j)
        by_cases hlt : at' < EL
        · have hat3 : at' + 64 ≤ EL := by omega
          have HP : Hid (Shows wr.heap.size wr (.slice (some ⟨g, at', none⟩) (at' + 64 - at') (cap - at')) ((E.drop at').take 64)) := hid (by
            have := (HSH.out wr HG.out).mid at' 64 (by rw [HEN.out]; exact hat3)
            rw [Nat.zero_add] at this
            rw [show at' + 64 - at' = 64 by omega]
            exact this)
          have HPL2 : Hid (((E.drop at').take 64).length = 64) := hid (by have := HEN.out; simp; omega)
          have HQ := hid (show works (padded bs) start (k + (j + 1)) = work (works (padded bs) start (k + j)) ((E.drop at').take 64) by rw [← Nat.add_assoc, works, HPE.out j, hat2])
          obtain ⟨_, tk, _, hk2⟩ := HT.out.below hbr (by omega)
          have HT2 := hid hk2
          clear hk2
          have i1 : (0 : Int) ≤ (at' : Int) := by omega
          have i2 : (at' : Int) + 64 ≤ (cap : Int) := by omega
          have i3 : (at' : Int) ≤ (at' : Int) + 64 := by omega
          have i4 : IntKind.i64.wrap ((at' : Int) + 64) = (at' : Int) + 64 := by rw [IntKind.wrap_i64]; omega
          have i5 : ¬ cap = at' := by omega
          have hgw := block_lt HG.out
          clear hat2
          generalize works (padded bs) start (k + j) = st at *
          generalize hpc : (E.drop at').take 64 = pc at *
          have HPC := hid hpc
          clear hpc
          go_wp2_with fail
          refine wp_region_still_tail 6 (by kernel_rfl) (by kernel_rfl) ?_
          simp only [List.take_succ_cons, List.take_zero, List.drop_succ_cons, List.drop_zero]
          repeat still_step
          try refine wpStill_nil ?_
          go_wp2_with fail
          refine (with_any wr.heap.size st.a st.b st.c st.d st.e st.f st.g st.h _ pc wr.drew (Nat.le_refl _) hwok (HP.out.below (Below.refl _ _).drew) HPL2.out tk HT2.out).mono ?_
          rintro e' w3 ⟨rfl, hb2⟩
          rw [show (⟨st.a, st.b, st.c, st.d, st.e, st.f, st.g, st.h⟩ : St) = st from rfl]
          generalize work st pc = st2 at *
          replace hb2 : Below wr.heap.size wr w3 := ⟨hb2.os, hb2.tape, hb2.output, hb2.size, hb2.block⟩
          replace HR1 := hid ((hb2.block _ (block_lt HR1.out)).trans HR1.out)
          replace HR0 : Hid (∃ z : Array Value, z.size = 32 ∧ w3.heap[w.heap.size]? = some (.cells z 23 (0, 0))) := hid (by obtain ⟨z, hz, hz2⟩ := HR0.out; exact ⟨z, hz, (hb2.block _ (block_lt hz2)).trans hz2⟩)
          replace HG := hid ((hb2.block _ (block_lt HG.out)).trans HG.out)
          replace hbr := hbr.trans (hb2.mono hsz)
          clear o0 o1 o2 o3 o4 o5 o6 o7 hb2 hsz
          obtain ⟨m1, m2, m3, m4⟩ := setRow_facts (cs := st2.cells) HR1.out
          have HM1 := hid m1
          have HM0 : Hid (∃ z : Array Value, z.size = 32 ∧ (w3.setRow (w.heap.size + 1) st2.cells).heap[w.heap.size]? = some (.cells z 23 (0, 0))) := hid (by obtain ⟨z, hz, hz2⟩ := HR0.out; exact ⟨z, hz, (m2 _ (Nat.lt_succ_self _)).trans hz2⟩)
          have HMB := hid (m3 _ _ hbr (Nat.le_succ _))
          have HMG := hid ((setRow_other w3 (w.heap.size + 1) g st2.cells (by omega)).trans HG.out)
          clear m1 m2 m3 m4
          go_wp2_with (refine wpList_store_row rfl 112 (.tmp 3) (.tmp 34) rfl (w.heap.size + 1) st2.cells rfl rfl 112 _ HR1.out Tryd.infoWords (cells_size _ _) (cells_one _) ?_)
          generalize World.setRow _ (w.heap.size + 1) _ = w4 at *
          refine ⟨⟨at' + 64, j + 1, by go_num, hat3, hid (by rw [HAT.out]; omega), by rw [HQ.out]; exact HM1, HM0, HMG, HMB.out⟩, by simp [intOf]; omega⟩
        · have hsha : sha bs = (works (padded bs) start (k + j)).bytes := by
            rw [sha, HPL.out, show (64 * k + EL) / 64 = k + j by omega]
          have HSHA := hid hsha
          clear hsha hat2
          generalize works (padded bs) start (k + j) = st at *
          obtain ⟨z, hz, hz2⟩ := HR0.out
          have HZ := hid hz2
          have hsb : st.bytes.length = 32 := St.bytes_length _
          have HZS := hid (show z.size = ((st.bytes).map by8).toArray.size by simp [hz, hsb])
          have HI := hid (show (Tryd.prog.info? 23).map (·.size) = some ((st.bytes).map by8).toArray.size by simp only [List.size_toArray, List.length_map, hsb]; kernel_rfl)
          have HO1 : Hid (((st.bytes).map by8).toArray.all (·.oneCell') = true) := hid (by simp [by8, Value.oneCell'])
          clear hz hz2 hsb
          go_wp2_with fail
          refine (bytes_any st.a st.b st.c st.d st.e st.f st.g st.h wr hwok).mono ?_
          rintro e' w3 ⟨rfl, hb2⟩
          rw [show (⟨st.a, st.b, st.c, st.d, st.e, st.f, st.g, st.h⟩ : St) = st from rfl]
          have HZ3 := hid ((hb2.block _ (block_lt HZ.out)).trans HZ.out)
          replace hbr := hbr.trans (hb2.mono hsz)
          clear o0 o1 o2 o3 o4 o5 o6 o7 hb2 hsz
          go_wp2_with (first
            | (refine wpList_store_row rfl 23 (.tmp 2) (.tmp 36) rfl w.heap.size ((st.bytes).map by8).toArray rfl rfl 23 _ HZ3.out HI.out HZS.out HO1.out ?_)
            | (refine bodyPost_ret (v := .agg ((st.bytes).map by8).toArray) (results_cell_row rfl _ _ w.heap.size 23 ((st.bytes).map by8).toArray (0, 0) _ rfl (setRow_heap _ _ _ _ _ _ HZ3.out) Tryd.underlying23 rfl HI.out) rfl ⟨by rw [HSHA.out], below_setRow hbr (Nat.le_refl _) _⟩))
end Go.Proofs.YtmafaioohiaenaaDoor

/- Contracts of digest.Text and digest.Of. -/

namespace Go.Proofs.YtmafaioohiaenaaDoor
open Go.RowKit
set_option linter.unusedVariables false
set_option maxRecDepth 20000

theorem Tryd.infoRow : (Tryd.prog.info? 24).map (fun i => (i.zero, i.size, i.bytes)) = some (some (.slice none 0 0), 1, 24) := by kernel_rfl

/-- The cells of a slice of slices. -/
theorem Lists.cells {B : Nat} {w : World} {a : Option Addr} {l c : Nat} {rows : List (List UInt8)} (h : Lists B w (.slice a l c) rows) :
    ∃ vs : List Value, vs.length = rows.length ∧ l = rows.length ∧ (∀ u ∈ vs, u.oneCell' = true) ∧ (∀ (j : Nat) (u : Value) (r : List UInt8), vs[j]? = some u → rows[j]? = some r → Shows B w u r) ∧
      (a = none → rows = []) ∧ (∀ ad, a = some ad → ∀ (j : Nat) (u : Value), vs[j]? = some u → w.cell? (ad.add j) = some u) := by
  obtain ⟨a', c', vs, hv, h1, h2, h3, h4, h5⟩ := h
  simp only [Value.slice.injEq] at hv
  obtain ⟨rfl, hl, rfl⟩ := hv
  refine ⟨vs, h3, hl, fun u hu => ?_, h5, fun hn => ?_, fun ad had j u hu => ?_⟩
  · obtain ⟨j, hj, rfl⟩ := List.getElem_of_mem hu
    obtain ⟨x, y, e, _⟩ := h5 j vs[j] (rows[j]'(by omega)) (List.getElem?_eq_getElem _) (List.getElem?_eq_getElem _)
    rw [e]
    rfl
  · rcases Classical.em (rows = []) with h0 | h0
    · exact h0
    · obtain ⟨b, off, e, _⟩ := h4 h0
      rw [hn] at e
      cases e
  · have hj : j < vs.length := (List.getElem?_eq_some_iff.1 hu).1
    obtain ⟨b, off, e, _, hc⟩ := h4 (by intro e; rw [e] at h3; simp at h3; simp [h3] at hj)
    rw [had] at e
    simp only [Option.some.injEq] at e
    subst e
    have e2 : (⟨b, off, none⟩ : Addr).add j = ⟨b, off + j, none⟩ := by unfold Addr.add; split <;> simp_all
    rw [e2]
    exact hc j u hu

/-- append(dst, parts...): dst the call's own, parts whatever is listed. -/
theorem wpList_append_lists {P : Program} (w : World) {ops : Array Oper} {rest : List Oper} {o : Oper} {a : Act} {Q : Exit → Act → World → Prop} (hgd : o.guard = none) (s x : Operand) (t : TypeId)
    (ho : o.op = .call { callee := .builtin .append, args := #[s, x], argTypes := #[t, t] })
    (base : Nat) (e : TypeId) (i : TypeInfo) (ht : P.underlying t = some (.slice e)) (hi : P.info? e = some i) (hz : i.zero = some (.slice none 0 0))
    (hsize : i.size = 1) (hby : i.bytes = 24)
    (v : Value) (n : Nat) (xs : List Value) (hs : a.eval s = v) (hown : w.ownsRow base e 1 v n xs)
    (B : Nat) (vx : Value) (rows : List (List UInt8)) (hx : a.eval x = vx) (hL : Lists B w vx rows) (hnl : ∀ l c, vx = .slice none l c → c = 0)
    (hbytes : (n + rows.length) * 24 ≤ 140737488355328) (hbase : base ≤ w.heap.size)
    (h : ∀ v' w' vs, vs.length = rows.length → (∀ (j : Nat) (u : Value) (r : List UInt8), vs[j]? = some u → rows[j]? = some r → Shows B w u r) → w'.ownsRow base e 1 v' (n + rows.length) (xs ++ vs) → w.grownBy w' v.ownBlock → wpList P ops Q rest (a.put o.dst v') w') : wpList P ops Q (o :: rest) a w := by
  have hL0 := hL
  obtain ⟨ao, c, _, rfl, _⟩ := hL
  obtain ⟨vs, hvl, _, h1, hsh, hn, hc⟩ := hL0.cells
  cases ao with
  | none =>
    have h0 := hn rfl
    subst h0
    have hv : vs = [] := List.eq_nil_of_length_eq_zero hvl
    subst hv
    obtain rfl := hnl _ _ rfl
    exact wpList_append_own_none hgd s x t ho base e i 1 ht hi v n xs hs hown hx (h v w [] rfl (fun j u r hu => by simp at hu) (by simpa using hown) (World.grownBy.refl w _))
  | some ad =>
    refine wpList_append_own w hgd s x t ho base e i (.slice none 0 0) 1 24 ht hi hz hsize hby rfl (by decide) v n xs hs hown ad rows.length c vs hx (by omega) (hc ad rfl) h1 (by unfold maxLen; omega) hbytes hbase ?_
    intro v' w' ho' hg' hnil
    exact h v' w' vs hvl hsh ho' hg'

/-- Bytes of a string, made. -/
theorem bytes_new (s : ByteArray) (hm : s.size ≤ maxLen) (u : World) : ∃ c wn, (convert 9 24 (.string s)).run Tryd.prog u = .ok (.slice (some ⟨u.heap.size, 0, none⟩) s.size c) wn ∧
    Shows (u.heap.size + 1) wn (.slice (some ⟨u.heap.size, 0, none⟩) s.size c) s.data.toList ∧ Below u.heap.size u wn ∧ wn.heap.size = u.heap.size + 1 ∧ ∃ cs fr, wn.heap[u.heap.size]? = some (.cells cs 5 fr) := by
  refine ⟨_, _, run_bytes_of_string (P := Tryd.prog) u 9 24 5 s Tryd.underlying9 Tryd.underlying24 Tryd.underlying5, ?_, ((Below.refl _ _).drew).alloc (Nat.le_refl _) _, by show (u.heap.push _).size = _; simp, _, _, heap_alloc_new u.drew _⟩
  have hsz : s.data.toList.length = s.size := by rw [Array.length_toList]; rfl
  refine ⟨_, _, by rw [hsz], by rw [hsz]; exact grownCap_ge _ _ _ _, grownCap_le_maxLen _ _ _ _ hm, (fun e => by cases e), fun _ => ⟨u.heap.size, 0, rfl, Nat.lt_succ_self _, fun j hj => ?_⟩⟩
  have hg : (u.drew.alloc (.cells (bytesRow s (grownCap u s.size 0 5)) 5 ((bytesRow s (grownCap u s.size 0 5)).size, (bytesRow s (grownCap u s.size 0 5)).size + 1))).heap[u.heap.size]? = some _ := heap_alloc_new u.drew _
  rw [cell_of_row _ _ _ _ _ _ hg, Nat.zero_add, bytesRow, Array.getElem?_append_left (by simpa using hj)]
  have hj2 : j < s.data.size := by simpa using hj
  simp only [Array.getElem?_map, Array.getElem?_eq_getElem hj2, Option.map_some, Array.getElem?_toList, Option.getD_some]

theorem Shows.grown {B : Nat} {w w' : World} {g off l c : Nat} {bs : List UInt8} {row : Option Nat} (h : Shows B w (.slice (some ⟨g, off, none⟩) l c) bs) (hg : w.grownBy w' row) (hB : B ≤ w.heap.size) (hne : some g ≠ row) : Shows B w' (.slice (some ⟨g, off, none⟩) l c) bs := by
  obtain ⟨a, c', hv, h1, h2, hn, h3⟩ := h
  simp only [Value.slice.injEq] at hv
  obtain ⟨rfl, hl, rfl⟩ := hv
  refine ⟨_, c, by rw [hl], h1, h2, hn, fun hne2 => ?_⟩
  obtain ⟨b, off', ha, hlt, hc⟩ := h3 hne2
  simp only [Option.some.injEq, Addr.mk.injEq] at ha
  obtain ⟨rfl, rfl, _⟩ := ha
  refine ⟨g, off, rfl, hlt, fun j hj => ?_⟩
  rw [World.cell?_of_block (w := w) (hg.block g (by omega) hne)]
  exact hc j hj

/-- What is summed of a named row: the error, the bytes. -/
def textOf (name : List UInt8) (rows : List (List UInt8)) : Nat × List UInt8 := if 16 < name.length then (2, []) else rowOf (name :: rows)

/-- A slice of slices that the call owns, each of them shown. -/
theorem lists_of_owns {w : World} {B : Nat} {v : Value} {vs : List Value} {rows : List (List UInt8)} (ho : w.ownsRow B 24 1 v rows.length vs) (hl : vs.length = rows.length)
    (hsh : ∀ (j : Nat) (u : Value) (r : List UInt8), vs[j]? = some u → rows[j]? = some r → Shows w.heap.size w u r) : Lists w.heap.size w v rows := by
  rcases ho.2 with ⟨rfl, hn⟩ | ⟨g, cap, cur, rfl, hb, hg, hnc, hcm, hcs, ht⟩
  · have h0 : rows = [] := List.eq_nil_of_length_eq_zero hn
    subst h0
    have hv : vs = [] := List.eq_nil_of_length_eq_zero (by simpa using hl)
    subst hv
    exact ⟨none, 0, [], rfl, Nat.le_refl _, Nat.zero_le _, rfl, fun h => absurd rfl h, fun j u r hu => by simp at hu⟩
  · refine ⟨_, cap, vs, rfl, hnc, hcm, hl, fun _ => ⟨g, 0, rfl, (Array.getElem?_eq_some_iff.1 hg).1, fun j u hu => ?_⟩, hsh⟩
    have hj : j < vs.length := (List.getElem?_eq_some_iff.1 hu).1
    rw [Nat.zero_add, ho.cellAt j (by rw [← hl]; omega)]
    exact hu

theorem own_block {w : World} {B e n : Nat} {v : Value} {xs : List Value} (h : w.ownsRow B e 1 v n xs) (hn : 0 < n) : ∃ g, v.ownBlock = some g ∧ ∃ cur, w.heap[g]? = some (.cells cur e (0, 0)) := by
  rcases h.2 with ⟨_, h0⟩ | ⟨g, cap, cur, rfl, hb, hg, _⟩
  · omega
  · exact ⟨g, rfl, cur, hg⟩

theorem ownsRow_mono {w : World} {B B' e n : Nat} {v : Value} {xs : List Value} (h : w.ownsRow B e 1 v n xs) (hB : B' ≤ B) : w.ownsRow B' e 1 v n xs := by
  refine ⟨h.1, ?_⟩
  rcases h.2 with hn | ⟨g, cap, cur, hv, hBg, r⟩
  · exact .inl hn
  · exact .inr ⟨g, cap, cur, hv, by omega, r⟩

set_option maxHeartbeats 4000000 in
theorem text_long (s : ByteArray) (v : Value) (w : World) (h : 16 < s.size) (hm : s.size ≤ maxLen) :
    Calls Tryd.prog 78 #[.string s, v] w fun e w' => e = .returned (.tuple #[.slice none 0 0, .int .i64 2]) ∧ w' = w := by
  unfold maxLen at hm
  go_enter Tryd.func78, Tryd.ntmps78
  go_wp2
  go_ret2
  exact ⟨rfl, rfl⟩

set_option maxHeartbeats 4000000 in
theorem text_short (B : Nat) (s : ByteArray) (a : Option Addr) (c : Nat) (rows : List (List UInt8)) (w : World) (hs : s.size ≤ 16) (hB : B ≤ w.heap.size) (hL : Lists B w (.slice a rows.length c) rows) (hnl : a = none → c = 0) (hr : rows.length * 24 ≤ 140737488351232) :
    Calls Tryd.prog 78 #[.string s, .slice a rows.length c] w fun e w' => ∃ v', e = .returned (.tuple #[v', .int .i64 (rowOf (s.data.toList :: rows)).1]) ∧ w'.ownsRow w.heap.size 5 1 v' (rowOf (s.data.toList :: rows)).2.length ((rowOf (s.data.toList :: rows)).2.map by8) ∧ Below w.heap.size w w' := by
  obtain ⟨i0, hi, hz0, hz1, hz2⟩ := info_parts Tryd.infoRow
  go_enter Tryd.func78, Tryd.ntmps78
  go_wp2_with (first
    | (at_make; refine wpList_make_own _ rfl _ _ 32 rfl w.heap.size 24 i0 (.slice none 0 0) 1 Tryd.underlying32 hi hz0 hz1 _ _ _ (1 + rows.length) rfl rfl (by omega) ?b2 ?b3 (Nat.le_refl _) ?_)
    | fail)
  case b2 => rw [hz2]; omega
  case b3 => unfold maxLen; omega
  intro w1 hown1 hgr1
  have hb1 : Below w.heap.size w w1 := (Below.refl _ _).grown hgr1 (Nat.le_refl _) (fun x hx => by cases hx)
  have hg1 := (hown1.lt w.heap.size rfl).2
  obtain ⟨cn, wn, hcv, hshn, hbn, hszn, csn, frn, hcn⟩ := bytes_new s (by unfold maxLen; omega) w1
  have hown2 : wn.ownsRow w.heap.size 24 1 (.slice (some ⟨w.heap.size, 0, none⟩) 0 (1 + rows.length)) 0 [] := by
    refine ⟨hown1.1, ?_⟩
    rcases hown1.2 with hn | ⟨g, cap, cur, hv, hBg, hg, r⟩
    · exact .inl hn
    · exact .inr ⟨g, cap, cur, hv, hBg, by rw [hbn.block g (Array.getElem?_eq_some_iff.1 hg).1]; exact hg, r⟩
  have hb2 := hb1.trans (hbn.mono hb1.size)
  have HSZ := hid hszn
  have HCN := hid hcn
  clear hcn
  clear hgr1 hszn
  go_wp2_with (first
    | (at_builtin; refine wpList_append_own _ rfl (.tmp 14) (.tmp 17) 32 rfl w.heap.size 24 i0 (.slice none 0 0) 1 24 Tryd.underlying32 hi hz0 hz1 hz2 rfl (by decide) _ _ _ rfl (hown2.alloc _) ⟨wn.heap.size, 0, none⟩ 1 1 [.slice (some ⟨w1.heap.size, 0, none⟩) s.size cn] rfl rfl (one_cell _ _ _) (by intro u hu; simp at hu; subst hu; rfl) (by unfold maxLen; omega) (by omega) ?base ?_)
    | fail)
  case base => have := hb2.size; simp; omega
  intro v3 w3 hown3 hg3 _
  have hszn := HSZ.out
  have hb3 : Below w.heap.size w w3 := (hb2.alloc hb2.size _).grown hg3 (by have := hb2.size; simp; omega) (fun q hq => by have hq' : some w.heap.size = some q := hq; cases hq'; exact Nat.le_refl _)
  have hsh3 : Shows (w1.heap.size + 1) w3 (.slice (some ⟨w1.heap.size, 0, none⟩) s.size cn) s.data.toList := (hshn.alloc (by omega) _).grown hg3 (by simp; omega) (by intro e; have e' : some w1.heap.size = some w.heap.size := e; simp at e'; omega)
  have hcn3 : w3.heap[w1.heap.size]? = some (.cells csn 5 frn) := by
    rw [hg3.block _ (by simp; omega) (by intro e; have e' : some w1.heap.size = some w.heap.size := e; simp at e'; omega), heap_alloc_old _ _ (by omega)]
    exact HCN.out
  have hw3 : w1.heap.size + 1 < w3.heap.size := by have := hg3.size; simp at this; omega
  have hown3' : w3.ownsRow w.heap.size 24 1 v3 1 [.slice (some ⟨w1.heap.size, 0, none⟩) s.size cn] := by simpa using hown3
  clear hown3
  have hown3 := hown3'
  clear hown3'
  obtain ⟨g3, hg3v⟩ := own_block hown3 (by omega)
  have hL3 := hL.below (hb3.mono hB)
  have hnl2 : ∀ l c', Value.slice a rows.length c = .slice none l c' → c' = 0 := fun l c' e => by
    simp only [Value.slice.injEq] at e
    rw [← e.2.2]
    exact hnl e.1
  have HCN3 := hid hcn3
  have HGV := hid hg3v
  clear hcv hg3 hown1 hown2 hshn hcn3 hg3v
  go_wp2_with (first
    | (at_builtin; refine wpList_append_lists _ rfl (.tmp 19) (.tmp 20) 32 rfl w.heap.size 24 i0 Tryd.underlying32 hi hz0 hz1 hz2 _ 1 _ rfl hown3 B _ rows rfl hL3 hnl2 (by omega) hb3.size ?_)
    | fail)
  intro v4 w4 vs hvl hshv hown4 hg4
  obtain ⟨e1, cur, e2⟩ := HGV.out
  have hlt3 := hown3.lt g3 e1
  have hg4' : some w1.heap.size ≠ v3.ownBlock := by
    rw [e1]
    intro e
    simp only [Option.some.injEq] at e
    rw [← e, HCN3.out] at e2
    simp at e2
  have hb34 : Below w.heap.size w3 w4 := (Below.refl _ _).grown hg4 hb3.size (fun q hq => by rw [e1] at hq; cases hq; exact hlt3.1)
  have hb4 := hb3.trans hb34
  have hs4 : w3.heap.size ≤ w4.heap.size := hg4.size
  have hL4 : Lists w4.heap.size w4 v4 (s.data.toList :: rows) := by
    refine lists_of_owns (B := w.heap.size) (vs := .slice (some ⟨w1.heap.size, 0, none⟩) s.size cn :: vs) ?_ (by simp [hvl]) ?_
    · rw [List.length_cons, Nat.add_comm]; simpa using hown4
    · intro j u r hu hrr
      cases j with
      | zero =>
        simp at hu hrr
        subst hu hrr
        exact (hsh3.grown hg4 (by omega) hg4').mono (by omega)
      | succ j =>
        have := hshv j u r (by simpa using hu) (by simpa using hrr)
        exact (this.below (hb34.mono hB)).mono (by have := hb4.size; omega)
  clear hg4 hshv hown4 hown3 hsh3 hL3
  have hsz4 := hb4.size
  go_wp2_with fail
  refine (row_any w4.heap.size _ (s.data.toList :: rows) w4 (Nat.le_refl _) hL4).mono ?_
  rintro e w5 ⟨v5, rfl, hown5, hb5⟩
  have hb6 := hb4.trans (hb5.mono hsz4)
  have hown6 := ownsRow_mono hown5 hsz4
  clear hb5 hown5 hL4
  generalize hR : rowOf (s.data.toList :: rows) = R at *
  have HR := hid hR
  clear hR
  go_wp2
  go_ret2
  exact ⟨_, by rw [HR.out]; rfl, by rw [HR.out]; exact hown6, hb6⟩

theorem text_any (B : Nat) (s : ByteArray) (v : Value) (rows : List (List UInt8)) (w : World) (hm : s.size ≤ maxLen) (hB : B ≤ w.heap.size) (hL : Lists B w v rows) (hnl : ∀ l c, v = .slice none l c → c = 0) (hr : rows.length * 24 ≤ 140737488351232) :
    Calls Tryd.prog 78 #[.string s, v] w fun e w' => ∃ v', e = .returned (.tuple #[v', .int .i64 (textOf s.data.toList rows).1]) ∧ w'.ownsRow w.heap.size 5 1 v' (textOf s.data.toList rows).2.length ((textOf s.data.toList rows).2.map by8) ∧ Below w.heap.size w w' := by
  have hsz : s.data.toList.length = s.size := by rw [Array.length_toList]; rfl
  by_cases h : 16 < s.size
  · have e : textOf s.data.toList rows = (2, []) := by rw [textOf, if_pos (by omega)]
    rw [e]
    refine (text_long s v w h hm).mono fun e w' ⟨he, hw⟩ => ?_
    subst he hw
    exact ⟨_, rfl, World.ownsRow_nil _ _ _ _, Below.refl _ _⟩
  · have e : textOf s.data.toList rows = rowOf (s.data.toList :: rows) := by rw [textOf, if_neg (by omega)]
    rw [e]
    have hL0 := hL
    obtain ⟨a, c, _, rfl, _⟩ := hL
    exact text_short B s a c rows w (by omega) hB hL0 (fun ha => hnl _ c (by rw [ha])) hr

/-- The digest of a named row: the error, the bytes. -/
def ofOf (name : List UInt8) (rows : List (List UInt8)) : Nat × List UInt8 := if (textOf name rows).1 = 0 then (0, sha (textOf name rows).2) else ((textOf name rows).1, List.replicate 32 0)
end Go.Proofs.YtmafaioohiaenaaDoor

/- Contracts of digest.Hex and digest.Unhex. -/

namespace Go.Proofs.YtmafaioohiaenaaDoor
open Go.RowKit
set_option linter.unusedVariables false
set_option maxRecDepth 20000

def digs : List UInt8 := [48, 49, 50, 51, 52, 53, 54, 55, 56, 57, 97, 98, 99, 100, 101, 102]
def hexDig (n : Nat) : UInt8 := digs.getD n 0

/-- A digest in digits. -/
def hexOf (bs : List UInt8) : List UInt8 := bs.flatMap fun b => [hexDig (b.toNat / 16), hexDig (b.toNat % 16)]

theorem hexOf_cons (b : UInt8) (bs : List UInt8) : hexOf (b :: bs) = hexDig (b.toNat / 16) :: hexDig (b.toNat % 16) :: hexOf bs := rfl

theorem hexOf_length (bs : List UInt8) : (hexOf bs).length = 2 * bs.length := by
  induction bs with
  | nil => rfl
  | cons b bs ih => rw [hexOf_cons, List.length_cons, List.length_cons, List.length_cons, ih]; omega

theorem hexOf_at (bs : List UInt8) (k : Nat) (u : UInt8) (h : bs[k]? = some u) : (hexOf bs)[2 * k]? = some (hexDig (u.toNat / 16)) ∧ (hexOf bs)[2 * k + 1]? = some (hexDig (u.toNat % 16)) := by
  induction bs generalizing k with
  | nil => simp at h
  | cons b bs ih =>
    cases k with
    | zero => simp at h; subst h; exact ⟨rfl, rfl⟩
    | succ k =>
      have := ih k (by simpa using h)
      rw [hexOf_cons, show 2 * (k + 1) = 2 * k + 1 + 1 by omega]
      exact this

theorem hexDig_run (n : Nat) (h : n < 16) (W : World) : (Instr.index 9 (.string ⟨#[48, 49, 50, 51, 52, 53, 54, 55, 56, 57, 97, 98, 99, 100, 101, 102]⟩) (.int .u8 (n : Int))).run Tryd.prog W = .ok (.int .u8 ((hexDig n).toNat : Int)) W := by
  have : ∀ n : Fin 16, (⟨#[48, 49, 50, 51, 52, 53, 54, 55, 56, 57, 97, 98, 99, 100, 101, 102]⟩ : ByteArray)[n.val]? = some (hexDig n.val) := by decide +kernel
  have h1 := this ⟨n, h⟩
  simp only at h1
  simp [Instr.index, run_underlying Tryd.underlying9, asIntOf, h1]

theorem fill_later (bs : List UInt8) (n k j : Nat) (hl : bs.length = n) (hk : k ≤ j) (hj : j < n) : ((bs.take k ++ List.replicate (n - k) 0).map by8).toArray[j]? = some (.int .u8 0) := by
  have hkl : (bs.take k).length = k := by simp; omega
  rw [List.getElem?_toArray, List.getElem?_map, List.getElem?_append_right (by omega), hkl, List.getElem?_replicate, if_pos (by omega)]
  rfl

theorem mask4 (n : Nat) (h : n < 256) : bits .and .u8 (n : Int) 15 = ((n % 16 : Nat) : Int) := by
  have := bits_mask .u8 8 (by decide) wraps_u8 4 (by decide) (n : Int) (by omega) (by simp; omega)
  rw [show (2 : Int) ^ 4 - 1 = 15 from rfl] at this
  rw [this]
  simp

/-- Digits worked into 32 bytes, i of them. -/
def num16 (ds : List UInt8) : Nat := ds.foldl (fun n c => n * 16 + digVal c) 0

def hpart (l : List UInt8) (i : Nat) : List UInt8 := (List.range 32).map fun j => UInt8.ofNat (num16 ((l.drop (2 * j)).take (min 2 (i - 2 * j))))

theorem hpart_length (l : List UInt8) (i : Nat) : (hpart l i).length = 32 := by simp [hpart]

theorem hpart_zero (l : List UInt8) : hpart l 0 = List.replicate 32 0 := by
  simp [hpart, num16]
  rfl

theorem digVal_lt (c : UInt8) : digVal c < 16 := by
  unfold digVal
  split <;> omega

theorem hpart_at (l : List UInt8) (i j : Nat) (hj : j < 32) : (hpart l i)[j]? = some (UInt8.ofNat (num16 ((l.drop (2 * j)).take (min 2 (i - 2 * j))))) := by
  simp [hpart, hj]

/-- One digit more. -/
theorem hpart_step (l : List UInt8) (i : Nat) (hi : i < 64) (hl : l.length = 64) : ∃ x : Nat, x < 16 ∧ (hpart l i)[i / 2]? = some (UInt8.ofNat x) ∧
    hpart l (i + 1) = (hpart l i).set (i / 2) (UInt8.ofNat (x * 16 + digVal (l[i]?.getD 0))) := by
  have hq : i / 2 < 32 := by omega
  have hmin : min 2 (i - 2 * (i / 2)) = i - 2 * (i / 2) := by omega
  refine ⟨num16 ((l.drop (2 * (i / 2))).take (i - 2 * (i / 2))), ?_, by rw [hpart_at _ _ _ hq, hmin], ?_⟩
  · rcases (by omega : i - 2 * (i / 2) = 0 ∨ i - 2 * (i / 2) = 1) with h | h
    · rw [h]; simp [num16]
    · rw [h]
      cases hd : l.drop (2 * (i / 2)) with
      | nil => simp [num16]
      | cons a r => simp [num16]; exact digVal_lt a
  · apply List.ext_getElem?
    intro j
    by_cases hj : j < 32
    · rw [hpart_at _ _ _ hj, List.getElem?_set, hpart_length]
      by_cases hji : i / 2 = j
      · subst hji
        rw [if_pos rfl, if_pos hq, show min 2 (i + 1 - 2 * (i / 2)) = (i - 2 * (i / 2)) + 1 by omega]
        have hlt : i - 2 * (i / 2) < (l.drop (2 * (i / 2))).length := by simp; omega
        rw [List.take_succ_eq_append_getElem hlt]
        have e : (l.drop (2 * (i / 2)))[i - 2 * (i / 2)]'hlt = l[i]?.getD 0 := by
          rw [List.getElem_drop, List.getElem?_eq_getElem (by omega), Option.getD_some]
          congr 1
          omega
        rw [e]
        simp [num16]
      · rw [if_neg hji, hpart_at _ _ _ hj]
        congr 4
        omega
    · rw [List.getElem?_eq_none (by rw [hpart_length]; omega), List.getElem?_eq_none (by rw [List.length_set, hpart_length]; omega)]

/-- The way back: the error, the bytes. -/
def unhexOf (l : List UInt8) : Nat × List UInt8 := if l.length = 64 ∧ ∀ c ∈ l, digOk c = true then (0, hpart l 64) else (4, List.replicate 32 0)

theorem nib (x d : Nat) (hx : x < 16) (hd : d < 16) : bits .or .u8 ((x : Int) * 16) (d : Int) = ((x * 16 + d : Nat) : Int) := by
  rw [show (x : Int) * 16 = ((x * 16 : Nat) : Int) from by omega, (bits_nat .u8 8 (by decide) wraps_u8 _ _ (by simp; omega) (by simp; omega)).2]
  have := Nat.shiftLeft_add_eq_or_of_lt (i := 4) (b := d) (by omega) x
  rw [Nat.shiftLeft_eq] at this
  exact congrArg Int.ofNat this.symm

/-- A result in memory beside one that is none. -/
theorem results_row_tmp {fn : Func} {p u : Tmp} {ty : TypeId} (h : fn.results = #[.cell p ty, .tmp u]) (tmps : Array Value) (w : World) (g : Nat) (t : TypeId) (cs : Array Value) (fr : Nat × Nat) (n : Nat) (e : TypeId)
    (hp : tmps.getD p undef = .pointer (some ⟨g, 0, none⟩)) (hg : w.heap[g]? = some (.cells cs t fr))
    (hu : Tryd.prog.underlying ty = some (.array n e)) (hi : (Tryd.prog.info? ty).map (·.size) = some cs.size) :
    (results fn tmps).run Tryd.prog w = .ok (.tuple #[.agg cs, tmps.getD u undef]) w := by
  rw [results_cell_tmp h, hp]
  simp [asAddr, Result.andThen, run_loadVar_row (P := Tryd.prog) w g t ty cs fr (.array n e) hg hu rfl hi]

theorem Tryd.infoSum : (Tryd.prog.info? 23).map (·.size) = some 32 := by kernel_rfl

def zero32 : Array Value := (List.replicate 32 (Value.int .u8 0)).toArray

theorem zero32_one : zero32.all (·.oneCell') = true := by decide +kernel

theorem zero32_eq : zero32 = ((List.replicate 32 (0 : UInt8)).map by8).toArray := by simp [zero32, by8]

theorem unhexOf_length (l : List UInt8) : (unhexOf l).2.length = 32 := by
  unfold unhexOf
  split
  · exact hpart_length l 64
  · simp
end Go.Proofs.YtmafaioohiaenaaDoor

/- Contract of digest.Of. -/

namespace Go.Proofs.YtmafaioohiaenaaDoor
open Go.RowKit
set_option linter.unusedVariables false
set_option maxRecDepth 20000

theorem textOf_length (name : List UInt8) (rows : List (List UInt8)) : (textOf name rows).2.length ≤ 1099511627776 := by
  unfold textOf
  split
  · simp
  · by_cases h : (rowOf (name :: rows)).1 = 0
    · obtain ⟨h1, h2, h3⟩ := rowOf_ok _ h
      rw [h3]
      have := wide_le _ h2
      simp only [rowBytes, List.length_append, be_length, blobs_length]
      omega
    · have : rowOf (name :: rows) = (2, []) := by
        unfold rowOf at h ⊢
        split at h
        · rename_i h'; rw [if_pos h']
        · simp at h
      rw [this]
      simp

theorem textOf_err (name : List UInt8) (rows : List (List UInt8)) : (textOf name rows).1 = 0 ∨ ((textOf name rows).1 = 2 ∧ (textOf name rows).2 = []) := by
  unfold textOf
  split
  · simp
  · unfold rowOf
    split
    · simp
    · simp

set_option maxRecDepth 100000 in
set_option maxHeartbeats 8000000 in
theorem of_any (B : Nat) (s : ByteArray) (v : Value) (rows : List (List UInt8)) (w : World) (hm : s.size ≤ maxLen) (hB : B ≤ w.heap.size) (hL : Lists B w v rows) (hnl : ∀ l c, v = .slice none l c → c = 0) (hr : rows.length * 24 ≤ 140737488351232) (ht : Tables w) :
    Calls Tryd.prog 96 #[.string s, v] w fun e w' => e = .returned (.tuple #[.agg ((ofOf s.data.toList rows).2.map by8).toArray, .int .i64 (ofOf s.data.toList rows).1]) ∧ Below w.heap.size w w' := by
  have hw1 := ht.lt
  have hnew := heap_alloc_new w (.cells zero32 23)
  have hbn : Below w.heap.size w (w.alloc (.cells zero32 23)) := (Below.refl _ _).alloc (Nat.le_refl _) _
  have hsn : (w.alloc (.cells zero32 23)).heap.size = w.heap.size + 1 := by simp
  have HTX := hid (text_any B s v rows (w.alloc (.cells zero32 23)) hm (by omega) (hL.below (hbn.mono hB)) hnl hr)
  have htl := textOf_length s.data.toList rows
  have HOF : Hid (ofOf s.data.toList rows = if (textOf s.data.toList rows).1 = 0 then (0, sha (textOf s.data.toList rows).2) else ((textOf s.data.toList rows).1, List.replicate 32 0)) := hid rfl
  have HER := hid (textOf_err s.data.toList rows)
  have HHL := hid htl
  clear htl
  generalize textOf s.data.toList rows = T at *
  generalize ofOf s.data.toList rows = O at *
  have HHN := hid hnew
  have HBN := hid hbn
  have HSN := hid hsn
  clear hnew hbn hsn
  go_enter Tryd.func96, Tryd.ntmps96
  go_wp2_with fail
  refine HTX.out.mono ?_
  rintro e w1 ⟨v1, rfl, hown, hb1⟩
  have hb1' : Below w.heap.size w w1 := HBN.out.trans (hb1.mono (by rw [HSN.out]; omega))
  have HZ : Hid (w1.heap[w.heap.size]? = some (.cells zero32 23 (0, 0))) := hid ((hb1.block _ (by rw [HSN.out]; omega)).trans HHN.out)
  have hsh := (shows_of_owns hown).2
  have ht1 := ht.below hb1' (by omega)
  have hsz1 := hb1'.size
  clear hb1 hown
  rcases HER.out with hz | ⟨hz, _⟩
  · have HO : Hid (O = (0, sha T.2)) := hid (by rw [HOF.out, if_pos hz])
    rw [hz]
    have HSL := hid (sha_length T.2)
    go_wp2_with fail
    refine (raw_any w1.heap.size v1 T.2 w1 (Nat.le_refl _) hsh HHL.out ht1).mono ?_
    rintro e' w2 ⟨rfl, hb2⟩
    have HZ2 := hid ((hb2.block _ (block_lt HZ.out)).trans HZ.out)
    have hbr := hb1'.trans (hb2.mono hsz1)
    obtain ⟨A, hA⟩ : ∃ A, A = ((sha T.2).map by8).toArray := ⟨_, rfl⟩
    rw [← hA]
    have hAs : A.size = 32 := by rw [hA]; simpa using HSL.out
    have hA1 : A.all (·.oneCell') = true := by rw [hA]; simp [by8, Value.oneCell']
    have HI := hid (show (Tryd.prog.info? 23).map (·.size) = some A.size by rw [hAs]; exact Tryd.infoSum)
    have HZS := hid (show zero32.size = A.size from hAs.symm)
    have HA := hid hA
    clear hA hAs hb2 HSL
    go_wp2_with (first
      | (refine wpList_store_row rfl 23 (.tmp 4) (.tmp 19) rfl w.heap.size A rfl rfl 23 zero32 HZ2.out HI.out HZS.out hA1 ?_))
    refine bodyPost_ret (v := .tuple #[.agg A, .int .i64 0]) (results_row_tmp (p := 4) (u := 5) (ty := 23) rfl _ _ w.heap.size 23 A (0, 0) _ _ rfl (setRow_heap _ _ _ _ _ _ HZ2.out) Tryd.underlying23 HI.out) rfl ⟨?_, below_setRow hbr (Nat.le_refl _) _⟩
    rw [HA.out, HO.out]
    rfl
  · have HO : Hid (O = (2, List.replicate 32 0)) := hid (by rw [HOF.out, if_neg (by omega), hz])
    rw [hz]
    go_wp2_with (first
      | (refine wpList_store_row rfl 23 (.tmp 4) (.tmp 16) rfl w.heap.size zero32 rfl rfl 23 zero32 HZ.out Tryd.infoSum rfl zero32_one ?_))
    refine bodyPost_ret (v := .tuple #[.agg zero32, .int .i64 2]) (results_row_tmp (p := 4) (u := 5) (ty := 23) rfl _ _ w.heap.size 23 zero32 (0, 0) _ _ rfl (setRow_heap _ _ _ _ _ _ HZ.out) Tryd.underlying23 Tryd.infoSum) rfl ⟨?_, below_setRow hb1' (Nat.le_refl _) _⟩
    rw [HO.out, zero32_eq]
    rfl
end Go.Proofs.YtmafaioohiaenaaDoor
