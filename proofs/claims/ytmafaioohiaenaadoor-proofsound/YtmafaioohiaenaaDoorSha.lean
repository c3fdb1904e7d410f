/- The digest of bytes as a function on plain lists: nothing of the program is named here. -/
import Derived.Test.YtmafaioohiaenaaDoorBase
import Derived.Laws.BitsLemmas
import Derived.Test.YtmafaioohiaenaaDoorChecked
import Derived.Deep.WholeRow
import Derived.StillTailTactics
import Derived.Deep.QuietTactic
import Derived.BigQuiet
import Derived.Laws.CopyOwn
namespace Go.Proofs.YtmafaioohiaenaaDoor
open Go.RowKit
set_option linter.unusedVariables false
set_option maxRecDepth 20000

/-- A word as a cell. -/
def w32 (n : Nat) : Value := .int .u32 (n : Int)

/-- x turned right by n bits. -/
def rot (x n : Nat) : Nat := (x / 2 ^ n) ||| (x * 2 ^ (32 - n) % 4294967296)

theorem u32_fit : ∀ n : Int, 0 ≤ n → n < 2 ^ 32 → IntKind.u32.wrap n = n := by
  intro n h0 h1
  rw [IntKind.wrap_u32]
  simp only [Int.reducePow] at h1
  omega

theorem i64_fit : ∀ n : Int, 0 ≤ n → n < 2 ^ 62 → IntKind.i64.wrap n = n := by
  intro n h0 h1
  rw [IntKind.wrap_i64]
  simp only [Int.reducePow] at h1
  omega

theorem xor_nat (k : IntKind) (j : Nat) (hj : j ≤ k.bits) (hk : ∀ n : Int, 0 ≤ n → n < 2 ^ j → k.wrap n = n) (a b : Nat) (ha : a < 2 ^ j) (hb : b < 2 ^ j) :
    bits .xor k a b = ((a ^^^ b : Nat) : Int) := by
  have hp : 2 ^ j ≤ 2 ^ k.bits := Nat.pow_le_pow_right (by decide) hj
  have ha' : a % 2 ^ k.bits = a := Nat.mod_eq_of_lt (Nat.lt_of_lt_of_le ha hp)
  have hb' : b % 2 ^ k.bits = b := Nat.mod_eq_of_lt (Nat.lt_of_lt_of_le hb hp)
  have cast : ∀ n : Nat, n < 2 ^ j → ((n : Nat) : Int) < 2 ^ j := fun n h => by exact_mod_cast h
  simp only [bits, BitVec.ofInt_natCast, BitVec.toNat_xor, BitVec.toNat_ofNat, ha', hb']
  exact hk _ (Int.natCast_nonneg _) (cast _ (Nat.xor_lt_two_pow ha hb))

theorem or32 (a b : Nat) (ha : a < 4294967296) (hb : b < 4294967296) : bits .or .u32 (a : Int) (b : Int) = ((a ||| b : Nat) : Int) :=
  (bits_nat .u32 32 (by decide) u32_fit a b (by simpa using ha) (by simpa using hb)).2
theorem and32 (a b : Nat) (ha : a < 4294967296) (hb : b < 4294967296) : bits .and .u32 (a : Int) (b : Int) = ((a &&& b : Nat) : Int) :=
  (bits_nat .u32 32 (by decide) u32_fit a b (by simpa using ha) (by simpa using hb)).1
theorem xor32 (a b : Nat) (ha : a < 4294967296) (hb : b < 4294967296) : bits .xor .u32 (a : Int) (b : Int) = ((a ^^^ b : Nat) : Int) :=
  xor_nat .u32 32 (by decide) u32_fit a b (by simpa using ha) (by simpa using hb)

theorem or64 (a b : Nat) (ha : a < 4611686018427387904) (hb : b < 4611686018427387904) : bits .or .i64 (a : Int) (b : Int) = ((a ||| b : Nat) : Int) :=
  (bits_nat .i64 62 (by decide) i64_fit a b (by simpa using ha) (by simpa using hb)).2
theorem and64 (a b : Nat) (ha : a < 4611686018427387904) (hb : b < 4611686018427387904) : bits .and .i64 (a : Int) (b : Int) = ((a &&& b : Nat) : Int) :=
  (bits_nat .i64 62 (by decide) i64_fit a b (by simpa using ha) (by simpa using hb)).1
theorem xor64 (a b : Nat) (ha : a < 4611686018427387904) (hb : b < 4611686018427387904) : bits .xor .i64 (a : Int) (b : Int) = ((a ^^^ b : Nat) : Int) :=
  xor_nat .i64 62 (by decide) i64_fit a b (by simpa using ha) (by simpa using hb)

theorem or_lt32 {a b : Nat} (ha : a < 4294967296) (hb : b < 4294967296) : a ||| b < 4294967296 := by
  have := Nat.or_lt_two_pow (n := 32) (x := a) (y := b) (by simpa using ha) (by simpa using hb)
  simpa using this
theorem and_lt32 {a b : Nat} (ha : a < 4294967296) (hb : b < 4294967296) : a &&& b < 4294967296 := by
  have := Nat.and_lt_two_pow (n := 32) a (y := b) (by simpa using hb)
  simpa using this
theorem xor_lt32 {a b : Nat} (ha : a < 4294967296) (hb : b < 4294967296) : a ^^^ b < 4294967296 := by
  have := Nat.xor_lt_two_pow (n := 32) (x := a) (y := b) (by simpa using ha) (by simpa using hb)
  simpa using this

theorem rot_lt (x n : Nat) (h : x < 4294967296) : rot x n < 4294967296 :=
  or_lt32 (Nat.lt_of_le_of_lt (Nat.div_le_self _ _) h) (Nat.mod_lt _ (by decide))

/-! The words of a piece. -/
def lo1 (x : Nat) : Nat := rot x 17 ^^^ rot x 19 ^^^ x / 1024
def lo0 (x : Nat) : Nat := rot x 7 ^^^ rot x 18 ^^^ x / 8

theorem div_lt32 {x : Nat} (h : x < 4294967296) (n : Nat) : x / n < 4294967296 := Nat.lt_of_le_of_lt (Nat.div_le_self _ _) h

theorem lo1_lt {x : Nat} (h : x < 4294967296) : lo1 x < 4294967296 := xor_lt32 (xor_lt32 (rot_lt _ _ h) (rot_lt _ _ h)) (div_lt32 h _)
theorem lo0_lt {x : Nat} (h : x < 4294967296) : lo0 x < 4294967296 := xor_lt32 (xor_lt32 (rot_lt _ _ h) (rot_lt _ _ h)) (div_lt32 h _)

/-- The first bytes, i of them, worked into 64 words. -/
def part (bs : List UInt8) (i : Nat) : List Nat := (List.range 64).map fun j => num ((bs.drop (4 * j)).take (min 4 (i - 4 * j)))

theorem part_length (bs : List UInt8) (i : Nat) : (part bs i).length = 64 := by simp [part]

theorem part_at (bs : List UInt8) (i j : Nat) (hj : j < 64) : (part bs i)[j]? = some (num ((bs.drop (4 * j)).take (min 4 (i - 4 * j)))) := by
  simp [part, hj]

theorem part_lt (bs : List UInt8) (i : Nat) : ∀ x ∈ part bs i, x < 4294967296 := by
  intro x hx
  obtain ⟨j, _, rfl⟩ := List.mem_map.1 hx
  have h1 := num_lt ((bs.drop (4 * j)).take (min 4 (i - 4 * j)))
  have h2 : ((bs.drop (4 * j)).take (min 4 (i - 4 * j))).length ≤ 4 := by simp; omega
  have h3 : (256 : Nat) ^ ((bs.drop (4 * j)).take (min 4 (i - 4 * j))).length ≤ 256 ^ 4 := Nat.pow_le_pow_right (by omega) h2
  simp only [Nat.reducePow] at h3
  omega

theorem part_zero (bs : List UInt8) : part bs 0 = List.replicate 64 0 := by
  simp [part, num]
  rfl

/-- One byte more. -/
theorem part_step (bs : List UInt8) (i : Nat) (hi : i < bs.length) (hl : bs.length = 64) :
    part bs (i + 1) = (part bs i).set (i / 4) ((part bs i).getD (i / 4) 0 * 256 + (bs[i]?.getD 0).toNat) ∧ (part bs i).getD (i / 4) 0 < 16777216 := by
  have hq : i / 4 < 64 := by omega
  have hv : (part bs i).getD (i / 4) 0 = num ((bs.drop (4 * (i / 4))).take (i - 4 * (i / 4))) := by
    rw [List.getD_eq_getElem?_getD, part_at _ _ _ hq, Option.getD_some, show min 4 (i - 4 * (i / 4)) = i - 4 * (i / 4) by omega]
  refine ⟨?_, ?_⟩
  · apply List.ext_getElem?
    intro j
    by_cases hj : j < 64
    · rw [part_at _ _ _ hj, List.getElem?_set, part_length]
      by_cases hji : i / 4 = j
      · subst hji
        rw [if_pos rfl, if_pos hq, hv, show min 4 (i + 1 - 4 * (i / 4)) = (i - 4 * (i / 4)) + 1 by omega]
        rw [num_take _ _ (by simp; omega), List.getElem?_drop, show 4 * (i / 4) + (i - 4 * (i / 4)) = i by omega]
      · rw [if_neg hji, part_at _ _ _ hj]
        congr 3
        omega
    · rw [List.getElem?_eq_none (by rw [part_length]; omega), List.getElem?_eq_none (by rw [List.length_set, part_length]; omega)]
  · rw [hv]
    have h1 := num_lt ((bs.drop (4 * (i / 4))).take (i - 4 * (i / 4)))
    have h2 : ((bs.drop (4 * (i / 4))).take (i - 4 * (i / 4))).length ≤ 3 := by simp; omega
    have h3 : (256 : Nat) ^ ((bs.drop (4 * (i / 4))).take (i - 4 * (i / 4))).length ≤ 256 ^ 3 := Nat.pow_le_pow_right (by omega) h2
    simp only [Nat.reducePow] at h3
    omega

/-- Word number t, out of those before it. -/
def nextWord (ws : List Nat) (t : Nat) : Nat := (lo1 (ws.getD (t - 2) 0) + ws.getD (t - 7) 0 + lo0 (ws.getD (t - 15) 0) + ws.getD (t - 16) 0) % 4294967296

/-- The words, up to number 16 + k. -/
def spread (bs : List UInt8) : Nat → List Nat
  | 0 => part bs 64
  | k + 1 => (spread bs k).set (16 + k) (nextWord (spread bs k) (16 + k))

theorem spread_length (bs : List UInt8) : ∀ k, (spread bs k).length = 64
  | 0 => part_length bs 64
  | k + 1 => by rw [spread, List.length_set, spread_length bs k]

theorem spread_lt (bs : List UInt8) : ∀ k, ∀ x ∈ spread bs k, x < 4294967296
  | 0, x, hx => part_lt bs 64 x hx
  | k + 1, x, hx => by
    rcases List.mem_or_eq_of_mem_set hx with h | h
    · exact spread_lt bs k x h
    · rw [h]; exact Nat.mod_lt _ (by decide)

def sched (bs : List UInt8) : List Nat := spread bs 48

theorem getD_lt {ws : List Nat} (h : ∀ x ∈ ws, x < 4294967296) (i : Nat) : ws.getD i 0 < 4294967296 := by
  rw [List.getD_eq_getElem?_getD]
  cases e : ws[i]? with
  | none => simp
  | some x => exact h x (List.mem_of_getElem? e)

/-! The rounds. -/
structure St where
  a : Nat
  b : Nat
  c : Nat
  d : Nat
  e : Nat
  f : Nat
  g : Nat
  h : Nat

def St.Ok (s : St) : Prop := s.a < 4294967296 ∧ s.b < 4294967296 ∧ s.c < 4294967296 ∧ s.d < 4294967296 ∧ s.e < 4294967296 ∧ s.f < 4294967296 ∧ s.g < 4294967296 ∧ s.h < 4294967296

def up1 (x : Nat) : Nat := rot x 6 ^^^ rot x 11 ^^^ rot x 25
def up0 (x : Nat) : Nat := rot x 2 ^^^ rot x 13 ^^^ rot x 22
def cho (e f g : Nat) : Nat := (e &&& f) ^^^ ((4294967295 - e) &&& g)
def maj (a b c : Nat) : Nat := (a &&& b) ^^^ (a &&& c) ^^^ (b &&& c)
def pOf (s : St) (k w : Nat) : Nat := (s.h + up1 s.e + cho s.e s.f s.g + k + w) % 4294967296
def qOf (s : St) : Nat := (up0 s.a + maj s.a s.b s.c) % 4294967296
def rnd (s : St) (k w : Nat) : St := ⟨(pOf s k w + qOf s) % 4294967296, s.a, s.b, s.c, (s.d + pOf s k w) % 4294967296, s.e, s.f, s.g⟩

def cubes : List Nat := [
    0x428a2f98, 0x71374491, 0xb5c0fbcf, 0xe9b5dba5, 0x3956c25b, 0x59f111f1, 0x923f82a4, 0xab1c5ed5,
    0xd807aa98, 0x12835b01, 0x243185be, 0x550c7dc3, 0x72be5d74, 0x80deb1fe, 0x9bdc06a7, 0xc19bf174,
    0xe49b69c1, 0xefbe4786, 0x0fc19dc6, 0x240ca1cc, 0x2de92c6f, 0x4a7484aa, 0x5cb0a9dc, 0x76f988da,
    0x983e5152, 0xa831c66d, 0xb00327c8, 0xbf597fc7, 0xc6e00bf3, 0xd5a79147, 0x06ca6351, 0x14292967,
    0x27b70a85, 0x2e1b2138, 0x4d2c6dfc, 0x53380d13, 0x650a7354, 0x766a0abb, 0x81c2c92e, 0x92722c85,
    0xa2bfe8a1, 0xa81a664b, 0xc24b8b70, 0xc76c51a3, 0xd192e819, 0xd6990624, 0xf40e3585, 0x106aa070,
    0x19a4c116, 0x1e376c08, 0x2748774c, 0x34b0bcb5, 0x391c0cb3, 0x4ed8aa4a, 0x5b9cca4f, 0x682e6ff3,
    0x748f82ee, 0x78a5636f, 0x84c87814, 0x8cc70208, 0x90befffa, 0xa4506ceb, 0xbef9a3f7, 0xc67178f2]

def start : St := ⟨0x6a09e667, 0xbb67ae85, 0x3c6ef372, 0xa54ff53a, 0x510e527f, 0x9b05688c, 0x1f83d9ab, 0x5be0cd19⟩

theorem cubes_lt : ∀ x ∈ cubes, x < 4294967296 := by decide +kernel
theorem cubes_length : cubes.length = 64 := by decide +kernel
theorem start_ok : start.Ok := by unfold St.Ok; decide +kernel

theorem up1_lt {x : Nat} (h : x < 4294967296) : up1 x < 4294967296 := xor_lt32 (xor_lt32 (rot_lt _ _ h) (rot_lt _ _ h)) (rot_lt _ _ h)
theorem up0_lt {x : Nat} (h : x < 4294967296) : up0 x < 4294967296 := xor_lt32 (xor_lt32 (rot_lt _ _ h) (rot_lt _ _ h)) (rot_lt _ _ h)
theorem cho_lt {e f g : Nat} (he : e < 4294967296) (hf : f < 4294967296) (hg : g < 4294967296) : cho e f g < 4294967296 := xor_lt32 (and_lt32 he hf) (and_lt32 (by omega) hg)
theorem maj_lt {a b c : Nat} (ha : a < 4294967296) (hb : b < 4294967296) (hc : c < 4294967296) : maj a b c < 4294967296 := xor_lt32 (xor_lt32 (and_lt32 ha hb) (and_lt32 ha hc)) (and_lt32 hb hc)

theorem rnd_ok {s : St} (h : s.Ok) (k w : Nat) : (rnd s k w).Ok := by
  obtain ⟨h1, h2, h3, h4, h5, h6, h7, h8⟩ := h
  exact ⟨Nat.mod_lt _ (by decide), h1, h2, h3, Nat.mod_lt _ (by decide), h5, h6, h7⟩

def rnds (ws : List Nat) (s : St) : Nat → St
  | 0 => s
  | t + 1 => rnd (rnds ws s t) (cubes.getD t 0) (ws.getD t 0)

theorem rnds_ok (ws : List Nat) {s : St} (h : s.Ok) : ∀ t, (rnds ws s t).Ok
  | 0 => h
  | t + 1 => rnd_ok (rnds_ok ws h t) _ _

def St.plus (s r : St) : St := ⟨(s.a + r.a) % 4294967296, (s.b + r.b) % 4294967296, (s.c + r.c) % 4294967296, (s.d + r.d) % 4294967296, (s.e + r.e) % 4294967296, (s.f + r.f) % 4294967296, (s.g + r.g) % 4294967296, (s.h + r.h) % 4294967296⟩

/-- s with one more piece worked in. -/
def work (s : St) (bs : List UInt8) : St := s.plus (rnds (sched bs) s 64)

theorem plus_ok (s r : St) : (s.plus r).Ok := by
  refine ⟨?_, ?_, ?_, ?_, ?_, ?_, ?_, ?_⟩ <;> exact Nat.mod_lt _ (by decide)

theorem work_ok (s : St) (bs : List UInt8) : (work s bs).Ok := plus_ok _ _

/-- The first n pieces of bs worked in. -/
def works (bs : List UInt8) (s : St) : Nat → St
  | 0 => s
  | n + 1 => work (works bs s n) ((bs.drop (64 * n)).take 64)

theorem works_ok (bs : List UInt8) {s : St} (h : s.Ok) : ∀ n, (works bs s n).Ok
  | 0 => h
  | n + 1 => work_ok _ _

def St.bytes (s : St) : List UInt8 := be s.a 4 ++ be s.b 4 ++ be s.c 4 ++ be s.d 4 ++ be s.e 4 ++ be s.f 4 ++ be s.g 4 ++ be s.h 4

theorem St.bytes_length (s : St) : s.bytes.length = 32 := by simp [St.bytes, be_length]

/-- What stands behind the last whole piece. -/
def ending (rest : List UInt8) (n : Nat) : List UInt8 := rest ++ [128] ++ List.replicate ((119 - rest.length) % 64) 0 ++ be (8 * n) 8

/-- The text that is worked in. -/
def padded (bs : List UInt8) : List UInt8 := bs ++ [128] ++ List.replicate ((119 - bs.length % 64) % 64) 0 ++ be (8 * bs.length) 8

/-- The digest. -/
def sha (bs : List UInt8) : List UInt8 := (works (padded bs) start ((padded bs).length / 64)).bytes

theorem sha_length (bs : List UInt8) : (sha bs).length = 32 := St.bytes_length _

theorem sha_abc : sha [97, 98, 99] = [0xba, 0x78, 0x16, 0xbf, 0x8f, 0x01, 0xcf, 0xea, 0x41, 0x41, 0x40, 0xde, 0x5d, 0xae, 0x22, 0x23, 0xb0, 0x03, 0x61, 0xa3, 0x96, 0x17, 0x7a, 0x9c, 0xb4, 0x10, 0xff, 0x61, 0xf2, 0x00, 0x15, 0xad] := by decide +kernel
end Go.Proofs.YtmafaioohiaenaaDoor

/- Contracts of bits.RotateLeft32 and of digest's right. -/

namespace Go.Proofs.YtmafaioohiaenaaDoor
open Go.RowKit
set_option linter.unusedVariables false
set_option maxRecDepth 20000

theorem low5 : ∀ n : Fin 32, 1 ≤ n.val → bits .and .u64 (IntKind.u64.wrap (-(n.val : Int))) 31 = ((32 - n.val : Nat) : Int) := by decide +kernel

set_option maxHeartbeats 400000 in
theorem rotl_any (x n : Nat) (w : World) (hx : x < 4294967296) (h1 : 1 ≤ n) (h2 : n ≤ 31) :
    Calls Tryd.prog 108 #[.int .u32 x, .int .i64 (-(n : Int))] w fun e w' => e = .returned (.int .u32 (rot x n)) ∧ w' = w := by
  have h5 := low5 ⟨n, by omega⟩ h1
  simp only at h5
  go_enter Tryd.func108, Tryd.ntmps108
  go_wp2
  go_ret
  refine ⟨congrArg (fun x : Int => Ending.returned (Value.int .u32 x)) ?_, rfl⟩
  rw [show 32 - (32 - n) = n by omega, show ((x : Int) * 2 ^ (32 - n) % 4294967296) = ((x * 2 ^ (32 - n) % 4294967296 : Nat) : Int) from by simp, show ((x : Int) / 2 ^ n) = ((x / 2 ^ n : Nat) : Int) from by simp]
  rw [or32 _ _ (Nat.mod_lt _ (by decide)) (Nat.lt_of_le_of_lt (Nat.div_le_self _ _) hx), Nat.or_comm]
  rfl

set_option maxHeartbeats 400000 in
theorem right_any (x n : Nat) (w : World) (hx : x < 4294967296) (h1 : 1 ≤ n) (h2 : n ≤ 31) :
    Calls Tryd.prog 103 #[.int .u32 x, .int .i64 n] w fun e w' => e = .returned (.int .u32 (rot x n)) ∧ w' = w := by
  go_enter Tryd.func103, Tryd.ntmps103
  go_wp2_with fail
  refine (rotl_any x n w hx h1 h2).mono ?_
  rintro e w' ⟨rfl, rfl⟩
  go_wp2
  go_ret
  exact ⟨rfl, rfl⟩

/-- The same, where the number is typed otherwise. -/
theorem right_at (x : Nat) (m : Int) (n : Nat) (w : World) (hm : m = (n : Int)) (hx : x < 4294967296) (h1 : 1 ≤ n) (h2 : n ≤ 31) :
    Calls Tryd.prog 103 #[.int .u32 x, .int .i64 m] w fun e w' => e = .returned (.int .u32 (rot x n)) ∧ w' = w := by
  subst hm
  exact right_any x n w hx h1 h2

/-- The same, the number whatever is typed. -/
theorem right_int (x : Nat) (m : Int) (w : World) (hx : x < 4294967296) (h1 : 1 ≤ m) (h2 : m ≤ 31) :
    Calls Tryd.prog 103 #[.int .u32 x, .int .i64 m] w fun e w' => e = .returned (.int .u32 (rot x m.toNat)) ∧ w' = w :=
  right_at x m m.toNat w (by omega) hx (by omega) (by omega)
end Go.Proofs.YtmafaioohiaenaaDoor

/- Contract of digest's stretched. -/

namespace Go.Proofs.YtmafaioohiaenaaDoor
open Go.RowKit
set_option linter.unusedVariables false
set_option maxRecDepth 20000

theorem words_cell {w : World} {g : Nat} {ws : List Nat} {t : TypeId} (h : w.heap[g]? = some (.cells (ws.map w32).toArray t (0, 0))) (k : Nat) (hk : k < ws.length) :
    w.cell? ⟨g, k, none⟩ = some (.int .u32 ((ws.getD k 0 : Nat) : Int)) := by
  rw [cell_of_row w _ _ _ _ _ h]
  simp [hk, w32]

theorem words_set (ws : List Nat) (k v : Nat) : (ws.map w32).toArray.setIfInBounds k (w32 v) = ((ws.set k v).map w32).toArray := by
  simp [List.map_set]

theorem block_lt {w : World} {g : Nat} {o : Obj} (h : w.heap[g]? = some o) : g < w.heap.size := (Array.getElem?_eq_some_iff.1 h).1

/-- Two blocks, one behind the other. -/
theorem two_new (w : World) (o o' : Obj) : ((w.alloc o).alloc o').heap[w.heap.size + 1]? = some o' ∧ ((w.alloc o).alloc o').heap[w.heap.size]? = some o ∧ Below w.heap.size w ((w.alloc o).alloc o') := by
  have e : (w.alloc o).heap.size = w.heap.size + 1 := by show (w.heap.push o).size = _; simp
  refine ⟨?_, ?_, ((Below.refl _ _).alloc (Nat.le_refl _) _).alloc (by omega) _⟩
  · rw [← e]; exact heap_alloc_new _ _
  · rw [heap_alloc_old _ _ (by omega)]; exact heap_alloc_new _ _

theorem two_newN (w : World) (o o' : Obj) (n : Nat) : (((w.alloc o).alloc o').drewN n).heap[w.heap.size + 1]? = some o' ∧ (((w.alloc o).alloc o').drewN n).heap[w.heap.size]? = some o ∧ Below w.heap.size w (((w.alloc o).alloc o').drewN n) ∧ (((w.alloc o).alloc o').drewN n).heap.size = w.heap.size + 2 := by
  obtain ⟨h1, h2, h3⟩ := two_new w o o'
  refine ⟨h1, h2, below_drewN h3 n, ?_⟩
  show ((w.heap.push o).push o').size = _
  simp

theorem or_byte32 (x y : Nat) (hx : x < 16777216) (hy : y < 256) : bits .or .u32 ((x : Int) * 256 % 4294967296) (y : Int) = ((x * 256 + y : Nat) : Int) := by
  rw [show (x : Int) * 256 % 4294967296 = ((x * 256 : Nat) : Int) from by omega, or32 _ _ (by omega) (by omega)]
  have := Nat.shiftLeft_add_eq_or_of_lt (i := 8) (b := y) (by omega) x
  rw [Nat.shiftLeft_eq] at this
  exact congrArg Int.ofNat this.symm

/-- One more word, as the walk writes it. -/
theorem next_step (a b c d : Nat) (ha : a < 4294967296) (hc : c < 4294967296) :
    (bits .xor .u32 (bits .xor .u32 (rot a 17 : Nat) (rot a 19 : Nat)) ((a : Int) / 1024) + (b : Int) + bits .xor .u32 (bits .xor .u32 (rot c 7 : Nat) (rot c 18 : Nat)) ((c : Int) / 8) + (d : Int)) % 4294967296 =
      (((lo1 a + b + lo0 c + d) % 4294967296 : Nat) : Int) := by
  rw [xor32 _ _ (rot_lt _ _ ha) (rot_lt _ _ ha), xor32 _ _ (rot_lt _ _ hc) (rot_lt _ _ hc), show (a : Int) / 1024 = ((a / 1024 : Nat) : Int) from by omega, show (c : Int) / 8 = ((c / 8 : Nat) : Int) from by omega]
  rw [xor32 _ _ (xor_lt32 (rot_lt _ _ ha) (rot_lt _ _ ha)) (div_lt32 ha _), xor32 _ _ (xor_lt32 (rot_lt _ _ hc) (rot_lt _ _ hc)) (div_lt32 hc _)]
  rw [lo1, lo0]
  omega

set_option maxHeartbeats 16000000 in
theorem stretched_some (b off c : Nat) (bs : List UInt8) (w : World) (hl : bs.length = 64) (hb : b < w.heap.size) (hc : 64 ≤ c)
    (hcell : ∀ j, j < 64 → w.cell? ⟨b, off + j, none⟩ = some (.int .u8 ((bs[j]?.getD 0).toNat : Int))) :
    Calls Tryd.prog 102 #[.slice (some ⟨b, off, none⟩) 64 c] w fun e w' => e = .returned (.agg ((sched bs).map w32).toArray) ∧ Below w.heap.size w w' := by
  go_enter Tryd.func102, Tryd.ntmps102
  go_wp2
  go_loopw [8] (fun i wr => ∃ k : Nat, k ≤ 64 ∧ i = .int .i64 k ∧ wr.heap[w.heap.size + 1]? = some (.cells ((part bs k).map w32).toArray 142 (0, 0)) ∧ (∃ cz, cz.size = 64 ∧ wr.heap[w.heap.size]? = some (.cells cz 142 (0, 0))) ∧ Below w.heap.size w wr) (fun i _ => 64 - (intOf i).toNat)
  case atStart =>
    refine ⟨0, Nat.zero_le _, rfl, ?_, ⟨_, ?_, (two_new w _ _).2.1⟩, (two_new w _ _).2.2⟩
    · rw [part_zero]
      exact (two_new w _ _).1
    · rfl
  case round =>
    obtain ⟨k, hk, rfl, hrow, ⟨cz, hcz, hrow0⟩, hbel⟩ := hrel
    by_cases hlt : k < 64
    · have hc1 := words_cell hrow (k / 4) (by rw [part_length]; omega)
      have hc2 : wr.cell? ⟨b, off + k, none⟩ = _ := (hbel.cell (p := ⟨b, off + k, none⟩) hb).trans (hcell k hlt)
      have hfz : wr.frozen? ⟨w.heap.size + 1, k / 4, none⟩ = false := frozen_of_row wr _ _ _ _ hrow
      have i0 : (0 : Int) ≤ (k : Int) := by omega
      have i1 : (k : Int) < 64 := by omega
      have HS := hid (part_step bs k (by omega) hl)
      have hbt := (bs[k]?.getD 0).toNat_lt
      have HR := hid hrow
      have HR0 := hid hrow0
      have HC := hid hcz
      clear hrow hrow0 hcz hcell
      generalize (part bs k).getD (k / 4) 0 = x at *
      generalize (bs[k]?.getD 0).toNat = y at *
      go_wp2
      go_region
      have HO := hid (or_byte32 x y HS.out.2 hbt)
      go_wp2
      go_roundw
      case rel =>
        refine ⟨k + 1, by omega, by go_num, ?_, ⟨cz, HC.out, ?_⟩, (hbel.setCell (p := ⟨w.heap.size + 1, k / 4, none⟩) (Nat.le_succ _) _).drew⟩
        · rw [HS.out.1, ← words_set, w32, ← HO.out]
          exact heap_setCell_same wr _ _ _ _ _ HR.out
        · rw [← HR0.out]
          exact heap_setCell_other wr _ _ _ (by simp)
      case measure => simp [intOf]; omega
    · have hk64 : k = 64 := by omega
      rw [hk64, show part bs 64 = spread bs (16 - 16) from rfl] at hrow
      clear hk64
      have HR := hid hrow
      have HR0 := hid hrow0
      have HC := hid hcz
      clear hrow hrow0 hcz hcell
      go_wp2
      go_loopw [5] (fun i wr => ∃ t : Nat, 16 ≤ t ∧ t ≤ 64 ∧ i = .int .i64 t ∧ wr.heap[w.heap.size + 1]? = some (.cells ((spread bs (t - 16)).map w32).toArray 142 (0, 0)) ∧ (∃ cz, cz.size = 64 ∧ wr.heap[w.heap.size]? = some (.cells cz 142 (0, 0))) ∧ Below w.heap.size w wr) (fun i _ => 64 - (intOf i).toNat)
      case atStart => exact ⟨16, Nat.le_refl _, by omega, rfl, HR.out, ⟨cz, HC.out, HR0.out⟩, hbel⟩
      case round =>
        clear HR HR0 HC hbel
        obtain ⟨t, ht0, ht1, rfl, hrow, ⟨cz, hcz, hrow0⟩, hbel⟩ := hrel
        have hlen := spread_length bs (t - 16)
        by_cases hlt : t < 64
        · have c2 := words_cell hrow (t - 2) (by omega)
          have c7 := words_cell hrow (t - 7) (by omega)
          have c15 := words_cell hrow (t - 15) (by omega)
          have c16 := words_cell hrow (t - 16) (by omega)
          have ct := words_cell hrow t (by omega)
          have hfz : wr.frozen? ⟨w.heap.size + 1, t, none⟩ = false := frozen_of_row wr _ _ _ _ hrow
          have x2 : IntKind.i64.wrap ((t : Int) - 2) = ((t - 2 : Nat) : Int) := by rw [IntKind.wrap_i64]; omega
          have x7 : IntKind.i64.wrap ((t : Int) - 7) = ((t - 7 : Nat) : Int) := by rw [IntKind.wrap_i64]; omega
          have x15 : IntKind.i64.wrap ((t : Int) - 15) = ((t - 15 : Nat) : Int) := by rw [IntKind.wrap_i64]; omega
          have x16 : IntKind.i64.wrap ((t : Int) - 16) = ((t - 16 : Nat) : Int) := by rw [IntKind.wrap_i64]; omega
          have y2 : ((t - 2 : Nat) : Int) < 64 := by omega
          have y7 : ((t - 7 : Nat) : Int) < 64 := by omega
          have y15 : ((t - 15 : Nat) : Int) < 64 := by omega
          have y16 : ((t - 16 : Nat) : Int) < 64 := by omega
          have yt : (t : Int) < 64 := by omega
          have b2 := getD_lt (spread_lt bs (t - 16)) (t - 2)
          have b7 := getD_lt (spread_lt bs (t - 16)) (t - 7)
          have b15 := getD_lt (spread_lt bs (t - 16)) (t - 15)
          have b16 := getD_lt (spread_lt bs (t - 16)) (t - 16)
          have HN : Hid (nextWord (spread bs (t - 16)) t = (lo1 ((spread bs (t - 16)).getD (t - 2) 0) + (spread bs (t - 16)).getD (t - 7) 0 + lo0 ((spread bs (t - 16)).getD (t - 15) 0) + (spread bs (t - 16)).getD (t - 16) 0) % 4294967296) := hid rfl
          have HR := hid hrow
          have HR0 := hid hrow0
          have HC := hid hcz
          clear hrow hrow0 hcz hlen
          generalize (spread bs (t - 16)).getD (t - 2) 0 = X2 at *
          generalize (spread bs (t - 16)).getD (t - 7) 0 = X7 at *
          generalize (spread bs (t - 16)).getD (t - 15) 0 = X15 at *
          generalize (spread bs (t - 16)).getD (t - 16) 0 = X16 at *
          go_wp2
          go_quiet (fail)
          replace c7 : (wr.drewN nq).cell? _ = _ := c7
          replace c16 : (wr.drewN nq).cell? _ = _ := c16
          replace ct : (wr.drewN nq).cell? _ = _ := ct
          replace hfz : (wr.drewN nq).frozen? _ = _ := hfz
          replace HR : Hid ((wr.drewN nq).heap[w.heap.size + 1]? = _) := HR
          replace HR0 : Hid ((wr.drewN nq).heap[w.heap.size]? = _) := HR0
          replace hbel := below_drewN hbel nq
          clear c2 c15
          generalize wr.drewN nq = wq at *
          go_wp2
          refine wp_region_still_tail 29 (by kernel_rfl) (by kernel_rfl) ?_
          simp only [List.take_succ_cons, List.take_zero, List.drop_succ_cons, List.drop_zero]
          repeat still_step
          still_call (right_at X2 17 17 _ rfl b2 (by omega) (by omega))
          repeat still_step
          still_call (right_at X2 19 19 _ rfl b2 (by omega) (by omega))
          repeat still_step
          still_call (right_at X15 7 7 _ rfl b15 (by omega) (by omega))
          repeat still_step
          still_call (right_at X15 18 18 _ rfl b15 (by omega) (by omega))
          repeat still_step
          try refine wpStill_nil ?_
          go_wp2
          go_roundw
          case rel =>
            have HE := hid (next_step X2 X7 X15 X16 b2 b15)
            refine ⟨t + 1, by omega, by omega, by go_num, ?_, ⟨cz, HC.out, ?_⟩, ?_⟩
            · rw [show t + 1 - 16 = (t - 16) + 1 by omega, spread, show 16 + (t - 16) = t by omega, HN.out, ← words_set, w32, ← HE.out]
              exact heap_setCell_same wq _ _ _ _ _ HR.out
            · rw [← HR0.out]
              exact heap_setCell_other wq _ _ _ (by simp)
            · exact (hbel.setCell (p := ⟨w.heap.size + 1, t, none⟩) (Nat.le_succ _) _).drew
          case measure => simp [intOf]; omega
        · have hk48 : t = 64 := by omega
          subst hk48
          obtain ⟨A, hA⟩ : ∃ A, A = ((spread bs (64 - 16)).map w32).toArray := ⟨_, rfl⟩
          have hAs : A.size = 64 := by rw [hA]; simpa using hlen
          have hA1 : A.all (·.oneCell') = true := by rw [hA]; simp [w32, Value.oneCell']
          rw [← hA] at hrow
          have HA := hid hA
          have HR := hid hrow
          have HR0 := hid hrow0
          have HC := hid (hcz.trans hAs.symm)
          have HI := hid (show (Tryd.prog.info? 142).map (·.size) = some A.size by rw [hAs]; kernel_rfl)
          clear hA hrow hrow0 hcz hAs hlen
          go_wp2_with (first
            | (refine wpList_load_row rfl 142 (.tmp 3) rfl (w.heap.size + 1) rfl 142 A (0, 0) _ HR.out Tryd.underlying142 rfl HI.out ?_)
            | (refine wpList_store_row rfl 142 (.tmp 2) (.tmp 67) rfl w.heap.size A rfl rfl 142 cz HR0.out HI.out HC.out hA1 ?_)
            | (refine bodyPost_ret (v := .agg A) (results_cell_row rfl _ _ w.heap.size 142 A (0, 0) _ rfl (setRow_heap _ _ _ _ _ _ HR0.out) Tryd.underlying142 rfl HI.out) rfl ⟨by rw [HA.out]; rfl, below_setRow hbel (Nat.le_refl _) _⟩))

theorem stretched_any (B : Nat) (v : Value) (bs : List UInt8) (w : World) (hB : B ≤ w.heap.size) (hsh : Shows B w v bs) (hl : bs.length = 64) :
    Calls Tryd.prog 102 #[v] w fun e w' => e = .returned (.agg ((sched bs).map w32).toArray) ∧ Below w.heap.size w w' := by
  obtain ⟨a, c, rfl, h1, h2, hn, h3⟩ := hsh
  obtain ⟨b, off, rfl, hlt, hc⟩ := h3 (by intro e; simp [e] at hl)
  rw [hl] at h1 hc ⊢
  exact stretched_some b off c bs w hl (by omega) h1 hc
end Go.Proofs.YtmafaioohiaenaaDoor

/- Contract of digest's with. -/

namespace Go.Proofs.YtmafaioohiaenaaDoor
open Go.RowKit
set_option linter.unusedVariables false
set_option maxRecDepth 20000

/-- The words as an array. -/
def St.cells (s : St) : Array Value := #[w32 s.a, w32 s.b, w32 s.c, w32 s.d, w32 s.e, w32 s.f, w32 s.g, w32 s.h]

/-- A word of an array by value. -/
theorem run_index_words (WS : Array Value) (t : Nat) (u : Value) (W : World) (h : WS[t]? = some u) (ht : t < 64) :
    (Instr.index 142 (.agg WS) (.int .i64 t)).run Tryd.prog W = .ok u W := by
  simp [Instr.index, run_underlying Tryd.underlying142, asIntOf, ht, h, go_sem]

theorem not32 (E : Nat) (h : E < 4294967296) : bits .xor .u32 (if IntKind.u32.signed = true then -1 else IntKind.u32.max) (E : Int) = ((4294967295 - E : Nat) : Int) := by
  have e1 : (if IntKind.u32.signed = true then (-1 : Int) else IntKind.u32.max) = ((4294967295 : Nat) : Int) := by decide +kernel
  rw [e1, xor32 _ _ (by decide) h]
  have h1 : (BitVec.allOnes 32 ^^^ BitVec.ofNat 32 E) = ~~~ BitVec.ofNat 32 E := by rw [BitVec.allOnes_xor]
  have h2 := congrArg BitVec.toNat h1
  rw [BitVec.toNat_xor, BitVec.toNat_not, BitVec.toNat_allOnes, BitVec.toNat_ofNat, Nat.mod_eq_of_lt (by simpa using h)] at h2
  simp only [Nat.reducePow, Nat.reduceSub] at h2
  rw [h2]

/-- p of a round, as the walk writes it. -/
theorem p_step (H E F G k w : Nat) (hH : H < 4294967296) (hE : E < 4294967296) (hF : F < 4294967296) (hG : G < 4294967296) (s : St) (h1 : s.h = H) (h2 : s.e = E) (h3 : s.f = F) (h4 : s.g = G) :
    ((H : Int) + bits .xor .u32 (bits .xor .u32 (rot E 6 : Nat) (rot E 11 : Nat)) (rot E 25 : Nat) +
      bits .xor .u32 (bits .and .u32 (E : Int) (F : Int)) (bits .and .u32 (bits .xor .u32 (if IntKind.u32.signed = true then -1 else IntKind.u32.max) (E : Int)) (G : Int)) + (k : Int) + (w : Int)) % 4294967296 = ((pOf s k w : Nat) : Int) := by
  rw [not32 E hE, and32 _ _ (by omega) hG, and32 _ _ hE hF, xor32 _ _ (and_lt32 hE hF) (and_lt32 (by omega) hG), xor32 _ _ (rot_lt _ _ hE) (rot_lt _ _ hE), xor32 _ _ (xor_lt32 (rot_lt _ _ hE) (rot_lt _ _ hE)) (rot_lt _ _ hE)]
  rw [pOf, h1, h2, h3, h4, up1, cho]
  omega

/-- q of a round, as the walk writes it. -/
theorem q_step (A B C : Nat) (hA : A < 4294967296) (hB : B < 4294967296) (hC : C < 4294967296) (s : St) (h1 : s.a = A) (h2 : s.b = B) (h3 : s.c = C) :
    (bits .xor .u32 (bits .xor .u32 (rot A 2 : Nat) (rot A 13 : Nat)) (rot A 22 : Nat) +
      bits .xor .u32 (bits .xor .u32 (bits .and .u32 (A : Int) (B : Int)) (bits .and .u32 (A : Int) (C : Int))) (bits .and .u32 (B : Int) (C : Int))) % 4294967296 = ((qOf s : Nat) : Int) := by
  rw [and32 _ _ hA hB, and32 _ _ hA hC, and32 _ _ hB hC, xor32 _ _ (and_lt32 hA hB) (and_lt32 hA hC), xor32 _ _ (xor_lt32 (and_lt32 hA hB) (and_lt32 hA hC)) (and_lt32 hB hC), xor32 _ _ (rot_lt _ _ hA) (rot_lt _ _ hA), xor32 _ _ (xor_lt32 (rot_lt _ _ hA) (rot_lt _ _ hA)) (rot_lt _ _ hA)]
  rw [qOf, h1, h2, h3, up0, maj]
  omega

theorem one8 (a b c d e f g h : Int) : (#[Value.int .u32 a, .int .u32 b, .int .u32 c, .int .u32 d, .int .u32 e, .int .u32 f, .int .u32 g, .int .u32 h] : Array Value).all (·.oneCell') = true := by simp [Value.oneCell']

theorem rnd_a (s : St) (k w : Nat) : (rnd s k w).a = (pOf s k w + qOf s) % 4294967296 := rfl
theorem rnd_e (s : St) (k w : Nat) : (rnd s k w).e = (s.d + pOf s k w) % 4294967296 := rfl

theorem Tryd.infoWords : (Tryd.prog.info? 112).map (·.size) = some 8 := by kernel_rfl

theorem sum32 (a A : Nat) : Value.int .u32 (((a : Int) + (A : Int)) % 4294967296) = w32 ((a + A) % 4294967296) := congrArg (Value.int .u32) (by omega)

set_option maxRecDepth 100000 in
set_option maxHeartbeats 16000000 in
theorem with_any (B : Nat) (p0 p1 p2 p3 p4 p5 p6 p7 : Nat) (v : Value) (bs : List UInt8) (w : World) (hB : B ≤ w.heap.size) (hok : St.Ok ⟨p0, p1, p2, p3, p4, p5, p6, p7⟩) (hsh : Shows B w v bs) (hl : bs.length = 64)
    (tk : TypeId) (hk : w.heap[1]? = some (.cells (cubes.map w32).toArray tk (0, 0))) :
    Calls Tryd.prog 74 #[.agg #[.int .u32 p0, .int .u32 p1, .int .u32 p2, .int .u32 p3, .int .u32 p4, .int .u32 p5, .int .u32 p6, .int .u32 p7], v] w fun e' w' => e' = .returned (.agg (work ⟨p0, p1, p2, p3, p4, p5, p6, p7⟩ bs).cells) ∧ Below w.heap.size w w' := by
  have HK := hid hk
  have hk1 : 1 < w.heap.size := block_lt hk
  clear hk
  go_enter Tryd.func74, Tryd.ntmps74
  go_wp2_with fail
  go_quiet (fail)
  go_wp2_with fail
  obtain ⟨b1, b0, hbel, hsz⟩ := two_newN w (.cells #[.int .u32 p0, .int .u32 p1, .int .u32 p2, .int .u32 p3, .int .u32 p4, .int .u32 p5, .int .u32 p6, .int .u32 p7] 112) (.cells #[.int .u32 0, .int .u32 0, .int .u32 0, .int .u32 0, .int .u32 0, .int .u32 0, .int .u32 0, .int .u32 0] 112) nq
  generalize World.drewN _ nq = w0 at *
  have hkk := (hbel.block 1 hk1).trans HK.out
  refine (stretched_any B v bs w0 (by omega) (hsh.below (hbel.mono hB)) hl).mono ?_
  rintro e' w1 ⟨rfl, hbel1⟩
  replace b1 := (hbel1.block _ (by omega)).trans b1
  replace b0 := (hbel1.block _ (by omega)).trans b0
  replace hkk := (hbel1.block _ (by omega)).trans hkk
  replace hbel := hbel.trans (hbel1.mono (by omega))
  clear hbel1 hsz hsh
  have HW : Hid (∀ i, i < 64 → ((sched bs).map w32).toArray[i]? = some (.int .u32 ((sched bs).getD i 0 : Nat))) := hid (fun i hi => by simp [hi, spread_length, sched, w32])
  have HWL : Hid (∀ i, (sched bs).getD i 0 < 4294967296) := hid (getD_lt (spread_lt bs 48))
  have HCK : Hid (∀ i, i < 64 → w1.cell? ⟨1, i, none⟩ = some (.int .u32 (cubes.getD i 0 : Nat))) := hid (fun i hi => words_cell hkk i (by rw [cubes_length]; exact hi))
  have HCL : Hid (∀ i, cubes.getD i 0 < 4294967296) := hid (getD_lt cubes_lt)
  have HB1 := hid b1
  have HB0 := hid b0
  have HWD : Hid (work ⟨p0, p1, p2, p3, p4, p5, p6, p7⟩ bs = St.plus ⟨p0, p1, p2, p3, p4, p5, p6, p7⟩ (rnds (sched bs) ⟨p0, p1, p2, p3, p4, p5, p6, p7⟩ 64)) := hid rfl
  clear b1 b0 hkk HK hk1
  generalize ((sched bs).map w32).toArray = WS at *
  generalize sched bs = ws at *
  go_wp2_with fail
  go_loopw [5, 6, 7, 8, 9, 10, 11, 12, 35] (fun x5 x6 x7 x8 x9 x10 x11 x12 i wr => ∃ (t : Nat) (s : St) (m : Nat), t ≤ 64 ∧ i = .int .i64 t ∧ s.Ok ∧ Hid (s = rnds ws ⟨p0, p1, p2, p3, p4, p5, p6, p7⟩ t) ∧ Hid (wr = w1.drewN m) ∧ x5 = .int .u32 s.a ∧ x6 = .int .u32 s.b ∧ x7 = .int .u32 s.c ∧ x8 = .int .u32 s.d ∧ x9 = .int .u32 s.e ∧ x10 = .int .u32 s.f ∧ x11 = .int .u32 s.g ∧ x12 = .int .u32 s.h) (fun _ _ _ _ _ _ _ _ i _ => 64 - (intOf i).toNat)
  case atStart => exact ⟨0, ⟨p0, p1, p2, p3, p4, p5, p6, p7⟩, 0, Nat.zero_le _, rfl, hok, rfl, rfl, rfl, rfl, rfl, rfl, rfl, rfl, rfl, rfl⟩
  case round =>
    obtain ⟨t, ⟨A, B', C, D, E, F, G, H⟩, m, ht, rfl, hok2, HS, HM, rfl, rfl, rfl, rfl, rfl, rfl, rfl, rfl⟩ := hrel
    obtain ⟨o1, o2, o3, o4, o5, o6, o7, o8⟩ := hok2
    simp only at o1 o2 o3 o4 o5 o6 o7 o8 HS
    by_cases hlt : t < 64
    · have hw := HW.out t hlt
      have hwl := HWL.out t
      have hc : wr.cell? ⟨1, t, none⟩ = some (.int .u32 (cubes.getD t 0 : Nat)) := by rw [HM.out]; exact HCK.out t hlt
      have hcl := HCL.out t
      have t1 : (t : Int) < 64 := by omega
      have HN : Hid (rnds ws ⟨p0, p1, p2, p3, p4, p5, p6, p7⟩ (t + 1) = rnd (rnds ws ⟨p0, p1, p2, p3, p4, p5, p6, p7⟩ t) (cubes.getD t 0) (ws.getD t 0)) := hid rfl
      have hix := fun W => run_index_words WS t _ W hw hlt
      clear hw
      generalize ws.getD t 0 = wt at *
      generalize cubes.getD t 0 = kt at *
      go_wp2_with fail
      go_quiet ((go_at_call 103; refine Calls.quiet_of_same (right_int E _ _ o5 (by decide) (by decide))))
      replace HM : Hid (wr.drewN nq = w1.drewN (m + nq)) := hid (by rw [HM.out, World.drewN_drewN])
      generalize wr.drewN nq = wq at *
      clear hc hix
      go_wp2_with ((go_at_call 103; refine (right_int A _ _ o1 (by decide) (by decide)).mono ?_; rintro e' w' ⟨rfl, rfl⟩))
      go_roundw
      case rel =>
        refine ⟨t + 1, rnd ⟨A, B', C, D, E, F, G, H⟩ kt wt, m + nq, by omega, by go_num, rnd_ok ⟨o1, o2, o3, o4, o5, o6, o7, o8⟩ _ _, hid (by rw [HN.out, ← HS.out]), HM, ?_, rfl, rfl, rfl, ?_, rfl, rfl, rfl⟩
        · rw [p_step H E F G kt wt o8 o5 o6 o7 ⟨A, B', C, D, E, F, G, H⟩ rfl rfl rfl rfl, q_step A B' C o1 o2 o3 ⟨A, B', C, D, E, F, G, H⟩ rfl rfl rfl]
          exact congrArg (Value.int .u32) (by rw [rnd_a]; omega)
        · rw [p_step H E F G kt wt o8 o5 o6 o7 ⟨A, B', C, D, E, F, G, H⟩ rfl rfl rfl rfl]
          exact congrArg (Value.int .u32) (by rw [rnd_e]; show _ = (((D + pOf ⟨A, B', C, D, E, F, G, H⟩ kt wt) % 4294967296 : Nat) : Int); omega)
      case measure => simp [intOf]; omega
    · have ht64 : t = 64 := by omega
      have HT : Hid (work ⟨p0, p1, p2, p3, p4, p5, p6, p7⟩ bs = St.plus ⟨p0, p1, p2, p3, p4, p5, p6, p7⟩ ⟨A, B', C, D, E, F, G, H⟩) := hid (by rw [HWD.out, HS.out, ht64])
      have hb0 : wr.heap[w.heap.size]? = _ := (congrArg (fun W : World => W.heap[w.heap.size]?) HM.out).trans HB0.out
      have hb1 : wr.heap[w.heap.size + 1]? = _ := (congrArg (fun W : World => W.heap[w.heap.size + 1]?) HM.out).trans HB1.out
      have hbr : Below w.heap.size w wr := by rw [HM.out]; exact below_drewN hbel m
      have c0 := cell_of_row wr _ 0 _ _ _ hb0
      have c1 := cell_of_row wr _ 1 _ _ _ hb0
      have c2 := cell_of_row wr _ 2 _ _ _ hb0
      have c3 := cell_of_row wr _ 3 _ _ _ hb0
      have c4 := cell_of_row wr _ 4 _ _ _ hb0
      have c5 := cell_of_row wr _ 5 _ _ _ hb0
      have c6 := cell_of_row wr _ 6 _ _ _ hb0
      have c7 := cell_of_row wr _ 7 _ _ _ hb0
      simp at c0 c1 c2 c3 c4 c5 c6 c7
      obtain ⟨o1', o2', o3', o4', o5', o6', o7', o8'⟩ := hok
      simp only at o1' o2' o3' o4' o5' o6' o7' o8'
      have HX := hid hb1
      clear hb0 hb1 HM HB0 HB1 HS HWD HW HWL HCK HCL hbel
      go_wp2_with (first
        | (refine wpList_store_row rfl 112 (.tmp 4) (.tmp 129) rfl (w.heap.size + 1) #[.int .u32 (((p0 : Int) + (A : Int)) % 4294967296), .int .u32 (((p1 : Int) + (B' : Int)) % 4294967296), .int .u32 (((p2 : Int) + (C : Int)) % 4294967296), .int .u32 (((p3 : Int) + (D : Int)) % 4294967296), .int .u32 (((p4 : Int) + (E : Int)) % 4294967296), .int .u32 (((p5 : Int) + (F : Int)) % 4294967296), .int .u32 (((p6 : Int) + (G : Int)) % 4294967296), .int .u32 (((p7 : Int) + (H : Int)) % 4294967296)] rfl rfl 112 _ HX.out Tryd.infoWords (by rfl) (one8 _ _ _ _ _ _ _ _) ?_)
        | (refine bodyPost_ret (results_cell_row rfl _ _ (w.heap.size + 1) 112 _ (0, 0) _ rfl (setRow_heap _ _ _ _ _ _ HX.out) Tryd.underlying112 rfl Tryd.infoWords) rfl ⟨?_, below_setRow hbr (Nat.le_succ _) _⟩; rw [HT.out]; simp only [sum32]; rfl))
end Go.Proofs.YtmafaioohiaenaaDoor
