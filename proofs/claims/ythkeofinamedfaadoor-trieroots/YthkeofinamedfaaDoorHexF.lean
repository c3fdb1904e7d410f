/- Contracts of digest's bytes, digitOf, Hex, Unhex. -/
import Derived.Test.YthkeofinamedfaaDoorWords
namespace Go.Proofs.YthkeofinamedfaaDoor
open Go.RowKit
set_option linter.unusedVariables false
set_option maxRecDepth 20000

/-- What a digit stands for; 16: it is none. -/
def digit (c : UInt8) : Nat := if 48 ≤ c.toNat ∧ c.toNat ≤ 57 then c.toNat - 48 else if 97 ≤ c.toNat ∧ c.toNat ≤ 102 then c.toNat - 87 else 16

def digVal (c : UInt8) : Nat := if digit c < 16 then digit c else 0
def digOk (c : UInt8) : Bool := decide (digit c < 16)

theorem bytes_at (s : St) (i : Nat) (h : i < 32) : s.bytes[i]? = some (UInt8.ofNat ([s.a, s.b, s.c, s.d, s.e, s.f, s.g, s.h].getD (i / 4) 0 / 256 ^ (3 - i % 4))) := by
  have e : s.bytes = (List.range 32).map fun i => UInt8.ofNat ([s.a, s.b, s.c, s.d, s.e, s.f, s.g, s.h].getD (i / 4) 0 / 256 ^ (3 - i % 4)) := by
    simp [St.bytes, be, List.range_succ]
  rw [e, List.getElem?_map, List.getElem?_range h]
  rfl

/-- One byte more is written. -/
theorem fill_step (bs : List UInt8) (n k : Nat) (hl : bs.length = n) (hk : k < n) (u : UInt8) (hu : bs[k]? = some u) :
    ((bs.take k ++ List.replicate (n - k) 0).map by8).toArray.setIfInBounds k (by8 u) = ((bs.take (k + 1) ++ List.replicate (n - (k + 1)) 0).map by8).toArray := by
  have hkl : (bs.take k).length = k := by simp; omega
  have hg : bs[k]'(by omega) = u := by rw [List.getElem?_eq_getElem (by omega)] at hu; exact Option.some.inj hu
  rw [List.setIfInBounds_toArray, ← List.map_set, List.set_append_right _ _ (by omega), hkl, Nat.sub_self, show n - k = (n - (k + 1)) + 1 by omega, List.replicate_succ, List.set_cons_zero, List.take_succ_eq_append_getElem (by omega), hg, List.append_assoc]
  rfl

theorem fill_cell (bs : List UInt8) (n k : Nat) (hl : bs.length = n) (hk : k < n) : ((bs.take k ++ List.replicate (n - k) 0).map by8).toArray[k]? = some (.int .u8 0) := by
  have hkl : (bs.take k).length = k := by simp; omega
  rw [List.getElem?_toArray, List.getElem?_map, List.getElem?_append_right (by omega), hkl, Nat.sub_self, show n - k = (n - (k + 1)) + 1 by omega, List.replicate_succ]
  rfl

/-- Three blocks, one behind the other. -/
theorem three_new (w : World) (o o' o'' : Obj) : (((w.alloc o).alloc o').alloc o'').heap[w.heap.size + 2]? = some o'' ∧ (((w.alloc o).alloc o').alloc o'').heap[w.heap.size + 1]? = some o' ∧ (((w.alloc o).alloc o').alloc o'').heap[w.heap.size]? = some o ∧ Below w.heap.size w (((w.alloc o).alloc o').alloc o'') := by
  obtain ⟨h1, h2, h3⟩ := two_new w o o'
  have e : ((w.alloc o).alloc o').heap.size = w.heap.size + 2 := by show ((w.heap.push o).push o').size = _; simp
  refine ⟨?_, ?_, ?_, h3.alloc (by omega) _⟩
  · rw [← e]; exact heap_alloc_new _ _
  · rw [heap_alloc_old _ _ (by omega)]; exact h1
  · rw [heap_alloc_old _ _ (by omega)]; exact h2

set_option maxHeartbeats 4000000 in
theorem bytes_any (a b c d e f g h : Nat) (w : World) (hok : St.Ok ⟨a, b, c, d, e, f, g, h⟩) :
    Calls Tryd.prog 75 #[.agg #[.int .u32 a, .int .u32 b, .int .u32 c, .int .u32 d, .int .u32 e, .int .u32 f, .int .u32 g, .int .u32 h]] w fun e' w' => e' = .returned (.agg ((St.bytes ⟨a, b, c, d, e, f, g, h⟩).map by8).toArray) ∧ Below w.heap.size w w' := by
  go_enter Tryd.func75, Tryd.ntmps75
  go_wp2_with fail
  obtain ⟨b2, b1, b0, hbel⟩ := three_new w (.cells #[.int .u32 a, .int .u32 b, .int .u32 c, .int .u32 d, .int .u32 e, .int .u32 f, .int .u32 g, .int .u32 h] 110) (.cells (List.replicate 32 (.int .u8 0)).toArray 37) (.cells (List.replicate 32 (.int .u8 0)).toArray 37)
  simp only [List.replicate_succ, List.replicate_zero] at b2 b1 b0 hbel
  generalize World.alloc _ _ = w0 at *
  have HOK := hid hok
  have hsb : (St.bytes ⟨a, b, c, d, e, f, g, h⟩).length = 32 := St.bytes_length _
  have HAT : Hid (∀ i, i < 32 → (St.bytes ⟨a, b, c, d, e, f, g, h⟩)[i]? = some (UInt8.ofNat ([a, b, c, d, e, f, g, h].getD (i / 4) 0 / 256 ^ (3 - i % 4)))) := hid (bytes_at ⟨a, b, c, d, e, f, g, h⟩)
  have HLT : Hid (∀ i, [a, b, c, d, e, f, g, h].getD i 0 < 4294967296) := hid (by
    obtain ⟨o1, o2, o3, o4, o5, o6, o7, o8⟩ := hok
    exact getD_lt (by intro x hx; simp at hx o1 o2 o3 o4 o5 o6 o7 o8; rcases hx with h | h | h | h | h | h | h | h <;> rw [h] <;> assumption))
  have HC : Hid (∀ i, i < 8 → (#[Value.int .u32 a, .int .u32 b, .int .u32 c, .int .u32 d, .int .u32 e, .int .u32 f, .int .u32 g, .int .u32 h] : Array Value)[i]? = some (.int .u32 ([a, b, c, d, e, f, g, h].getD i 0 : Nat))) := hid (by
    intro i hi
    match i, hi with
    | 0, _ => rfl
    | 1, _ => rfl
    | 2, _ => rfl
    | 3, _ => rfl
    | 4, _ => rfl
    | 5, _ => rfl
    | 6, _ => rfl
    | 7, _ => rfl)
  generalize hbs : St.bytes ⟨a, b, c, d, e, f, g, h⟩ = bs at *
  have HBS := hid hbs
  clear hbs
  generalize [a, b, c, d, e, f, g, h] = ws at *
  generalize (#[Value.int .u32 a, .int .u32 b, .int .u32 c, .int .u32 d, .int .u32 e, .int .u32 f, .int .u32 g, .int .u32 h] : Array Value) = WS at *
  clear hok HOK
  have HB1 : Hid (w0.heap[w.heap.size + 1]? = _) := hid b1
  have HB2 : Hid (w0.heap[w.heap.size + 2]? = some (.cells (((bs.take 0 ++ List.replicate 32 0).map by8).toArray) 37 (0, 0))) := hid b2
  have HB0 := hid b0
  clear b0 b1 b2
  go_loopw [6] (fun i wr => ∃ k : Nat, k ≤ 32 ∧ i = .int .i64 k ∧ wr.heap[w.heap.size + 2]? = some (.cells (((bs.take k ++ List.replicate (32 - k) 0).map by8).toArray) 37 (0, 0)) ∧ wr.heap[w.heap.size + 1]? = w0.heap[w.heap.size + 1]? ∧ wr.heap[w.heap.size]? = w0.heap[w.heap.size]? ∧ Below w.heap.size w wr) (fun i _ => 32 - (intOf i).toNat)
  case atStart => exact ⟨0, Nat.zero_le _, rfl, HB2.out, rfl, rfl, hbel⟩
  case round =>
    obtain ⟨k, hk, rfl, r2, r1, r0, hbr⟩ := hrel
    by_cases hlt : k < 32
    · have hc1 := (cell_of_row wr _ (k / 4) _ _ _ (r0.trans HB0.out)).trans (HC.out (k / 4) (by omega))
      have hfz : wr.frozen? ⟨w.heap.size + 2, k, none⟩ = false := frozen_of_row wr _ _ _ _ r2
      have hc2 := (cell_of_row wr _ _ _ _ _ r2).trans (fill_cell bs 32 k hsb hlt)
      have HS := hid (HAT.out k hlt)
      have hwl := HLT.out (k / 4)
      have HR2 := hid r2
      have HR1 := hid r1
      have HR0 := hid r0
      have x4 : (k : Int) < 32 := by omega
      clear r2 r1 r0
      generalize ws.getD (k / 4) 0 = x at *
      go_wp2
      go_roundw
      case rel =>
        refine ⟨k + 1, by omega, by go_num, ?_, ?_, ?_, hbr.setCell (p := ⟨w.heap.size + 1 + 1, k, none⟩) (by simp; omega) _⟩
        · rw [by8_shr, ← fill_step bs 32 k hsb hlt _ HS.out]
          exact heap_setCell_same wr _ _ _ _ _ HR2.out
        · rw [← HR1.out]
          exact heap_setCell_other wr _ _ _ (by simp)
        · rw [← HR0.out]
          exact heap_setCell_other wr _ _ _ (by simp; omega)
      case measure => simp [intOf]; omega
    · have hk32 : k = 32 := by omega
      obtain ⟨A, hA⟩ : ∃ A, A = (bs.map by8).toArray := ⟨_, rfl⟩
      rw [hk32, show bs.take 32 ++ List.replicate (32 - 32) 0 = bs by rw [List.take_of_length_le (by omega)]; simp, ← hA] at r2
      have hAs : A.size = 32 := by rw [hA]; simpa using hsb
      have hA1 : A.all (·.oneCell') = true := by rw [hA]; simp [by8, Value.oneCell']
      have HA := hid hA
      have HR2 := hid r2
      have HR1 := hid (r1.trans HB1.out)
      have HI := hid (show (Tryd.prog.info? 37).map (·.size) = some A.size by rw [hAs]; kernel_rfl)
      have HZ := hid (show (32 : Nat) = A.size from hAs.symm)
      clear hk32 hA r2 r1 r0 hAs hsb HB0 HB1 HB2 HC HLT HAT
      go_wp2_with (first
        | (refine wpList_load_row rfl 37 (.tmp 3) rfl (w.heap.size + 1 + 1) rfl 37 A (0, 0) _ HR2.out Tryd.underlying37 rfl HI.out ?_)
        | (refine wpList_store_row rfl 37 (.tmp 2) (.tmp 23) rfl (w.heap.size + 1) A rfl rfl 37 _ HR1.out HI.out HZ.out hA1 ?_)
        | (refine bodyPost_ret (v := .agg A) (results_cell_row rfl _ _ (w.heap.size + 1) 37 A (0, 0) _ rfl (setRow_heap _ _ _ _ _ _ HR1.out) Tryd.underlying37 rfl HI.out) rfl ⟨by rw [HA.out, HBS.out], below_setRow hbr (Nat.le_succ _) _⟩))
end Go.Proofs.YthkeofinamedfaaDoor
