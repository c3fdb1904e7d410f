/- Contracts of digest.Hex and digest.Unhex. -/
import Derived.Test.YthkeofinamedfaaDoorHexF
namespace Go.Proofs.YthkeofinamedfaaDoor
open Go.RowKit
set_option linter.unusedVariables false
set_option maxRecDepth 20000

def digs : List UInt8 := [48, 49, 50, 51, 52, 53, 54, 55, 56, 57, 97, 98, 99, 100, 101, 102]
def hexDig (n : Nat) : UInt8 := digs.getD n 0

/-- A digest in digits. -/
def hexOf (bs : List UInt8) : List UInt8 := bs.flatMap fun b => [hexDig (b.toNat / 16), hexDig (b.toNat % 16)]

theorem hexOf_cons (b : UInt8) (bs : List UInt8) : hexOf (b :: bs) = hexDig (b.toNat / 16) :: hexDig (b.toNat % 16) :: hexOf bs := rfl

theorem hexOf_length (bs : List UInt8) : (hexOf bs).length = 2 * bs.length := by
  induction bs with
  | nil => rfl
  | cons b bs ih => rw [hexOf_cons, List.length_cons, List.length_cons, List.length_cons, ih]; omega

theorem hexOf_at (bs : List UInt8) (k : Nat) (u : UInt8) (h : bs[k]? = some u) : (hexOf bs)[2 * k]? = some (hexDig (u.toNat / 16)) ∧ (hexOf bs)[2 * k + 1]? = some (hexDig (u.toNat % 16)) := by
  induction bs generalizing k with
  | nil => simp at h
  | cons b bs ih =>
    cases k with
    | zero => simp at h; subst h; exact ⟨rfl, rfl⟩
    | succ k =>
      have := ih k (by simpa using h)
      rw [hexOf_cons, show 2 * (k + 1) = 2 * k + 1 + 1 by omega]
      exact this

theorem hexDig_run (n : Nat) (h : n < 16) (W : World) : (Instr.index 9 (.string ⟨#[48, 49, 50, 51, 52, 53, 54, 55, 56, 57, 97, 98, 99, 100, 101, 102]⟩) (.int .u8 (n : Int))).run Tryd.prog W = .ok (.int .u8 ((hexDig n).toNat : Int)) W := by
  have : ∀ n : Fin 16, (⟨#[48, 49, 50, 51, 52, 53, 54, 55, 56, 57, 97, 98, 99, 100, 101, 102]⟩ : ByteArray)[n.val]? = some (hexDig n.val) := by decide +kernel
  have h1 := this ⟨n, h⟩
  simp only at h1
  simp [Instr.index, run_underlying Tryd.underlying9, asIntOf, h1]

theorem fill_later (bs : List UInt8) (n k j : Nat) (hl : bs.length = n) (hk : k ≤ j) (hj : j < n) : ((bs.take k ++ List.replicate (n - k) 0).map by8).toArray[j]? = some (.int .u8 0) := by
  have hkl : (bs.take k).length = k := by simp; omega
  rw [List.getElem?_toArray, List.getElem?_map, List.getElem?_append_right (by omega), hkl, List.getElem?_replicate, if_pos (by omega)]
  rfl

theorem mask4 (n : Nat) (h : n < 256) : bits .and .u8 (n : Int) 15 = ((n % 16 : Nat) : Int) := by
  have := bits_mask .u8 8 (by decide) wraps_u8 4 (by decide) (n : Int) (by omega) (by simp; omega)
  rw [show (2 : Int) ^ 4 - 1 = 15 from rfl] at this
  rw [this]
  simp

/-- Digits worked into 32 bytes, i of them. -/
def num16 (ds : List UInt8) : Nat := ds.foldl (fun n c => n * 16 + digVal c) 0

def hpart (l : List UInt8) (i : Nat) : List UInt8 := (List.range 32).map fun j => UInt8.ofNat (num16 ((l.drop (2 * j)).take (min 2 (i - 2 * j))))

theorem hpart_length (l : List UInt8) (i : Nat) : (hpart l i).length = 32 := by simp [hpart]

theorem hpart_zero (l : List UInt8) : hpart l 0 = List.replicate 32 0 := by
  simp [hpart, num16]
  rfl

theorem digVal_lt (c : UInt8) : digVal c < 16 := by
  unfold digVal
  split <;> omega

theorem hpart_at (l : List UInt8) (i j : Nat) (hj : j < 32) : (hpart l i)[j]? = some (UInt8.ofNat (num16 ((l.drop (2 * j)).take (min 2 (i - 2 * j))))) := by
  simp [hpart, hj]

/-- One digit more. -/
theorem hpart_step (l : List UInt8) (i : Nat) (hi : i < 64) (hl : l.length = 64) : ∃ x : Nat, x < 16 ∧ (hpart l i)[i / 2]? = some (UInt8.ofNat x) ∧
    hpart l (i + 1) = (hpart l i).set (i / 2) (UInt8.ofNat (x * 16 + digVal (l[i]?.getD 0))) := by
  have hq : i / 2 < 32 := by omega
  have hmin : min 2 (i - 2 * (i / 2)) = i - 2 * (i / 2) := by omega
  refine ⟨num16 ((l.drop (2 * (i / 2))).take (i - 2 * (i / 2))), ?_, by rw [hpart_at _ _ _ hq, hmin], ?_⟩
  · rcases (by omega : i - 2 * (i / 2) = 0 ∨ i - 2 * (i / 2) = 1) with h | h
    · rw [h]; simp [num16]
    · rw [h]
      cases hd : l.drop (2 * (i / 2)) with
      | nil => simp [num16]
      | cons a r => simp [num16]; exact digVal_lt a
  · apply List.ext_getElem?
    intro j
    by_cases hj : j < 32
    · rw [hpart_at _ _ _ hj, List.getElem?_set, hpart_length]
      by_cases hji : i / 2 = j
      · subst hji
        rw [if_pos rfl, if_pos hq, show min 2 (i + 1 - 2 * (i / 2)) = (i - 2 * (i / 2)) + 1 by omega]
        have hlt : i - 2 * (i / 2) < (l.drop (2 * (i / 2))).length := by simp; omega
        rw [List.take_succ_eq_append_getElem hlt]
        have e : (l.drop (2 * (i / 2)))[i - 2 * (i / 2)]'hlt = l[i]?.getD 0 := by
          rw [List.getElem_drop, List.getElem?_eq_getElem (by omega), Option.getD_some]
          congr 1
          omega
        rw [e]
        simp [num16]
      · rw [if_neg hji, hpart_at _ _ _ hj]
        congr 4
        omega
    · rw [List.getElem?_eq_none (by rw [hpart_length]; omega), List.getElem?_eq_none (by rw [List.length_set, hpart_length]; omega)]

/-- The way back: the error, the bytes. -/
def unhexOf (l : List UInt8) : Nat × List UInt8 := if l.length = 64 ∧ ∀ c ∈ l, digOk c = true then (0, hpart l 64) else (4, List.replicate 32 0)

theorem nib (x d : Nat) (hx : x < 16) (hd : d < 16) : bits .or .u8 ((x : Int) * 16) (d : Int) = ((x * 16 + d : Nat) : Int) := by
  rw [show (x : Int) * 16 = ((x * 16 : Nat) : Int) from by omega, (bits_nat .u8 8 (by decide) wraps_u8 _ _ (by simp; omega) (by simp; omega)).2]
  have := Nat.shiftLeft_add_eq_or_of_lt (i := 4) (b := d) (by omega) x
  rw [Nat.shiftLeft_eq] at this
  exact congrArg Int.ofNat this.symm

/-- A result in memory beside one that is none. -/
theorem results_row_tmp {fn : Func} {p u : Tmp} {ty : TypeId} (h : fn.results = #[.cell p ty, .tmp u]) (tmps : Array Value) (w : World) (g : Nat) (t : TypeId) (cs : Array Value) (fr : Nat × Nat) (n : Nat) (e : TypeId)
    (hp : tmps.getD p undef = .pointer (some ⟨g, 0, none⟩)) (hg : w.heap[g]? = some (.cells cs t fr))
    (hu : Tryd.prog.underlying ty = some (.array n e)) (hi : (Tryd.prog.info? ty).map (·.size) = some cs.size) :
    (results fn tmps).run Tryd.prog w = .ok (.tuple #[.agg cs, tmps.getD u undef]) w := by
  rw [results_cell_tmp h, hp]
  simp [asAddr, Result.andThen, run_loadVar_row (P := Tryd.prog) w g t ty cs fr (.array n e) hg hu rfl hi]

theorem Tryd.infoSum : (Tryd.prog.info? 37).map (·.size) = some 32 := by kernel_rfl

def zero32 : Array Value := (List.replicate 32 (Value.int .u8 0)).toArray

theorem zero32_one : zero32.all (·.oneCell') = true := by decide +kernel

theorem zero32_eq : zero32 = ((List.replicate 32 (0 : UInt8)).map by8).toArray := by simp [zero32, by8]

theorem unhexOf_length (l : List UInt8) : (unhexOf l).2.length = 32 := by
  unfold unhexOf
  split
  · exact hpart_length l 64
  · simp
end Go.Proofs.YthkeofinamedfaaDoor
