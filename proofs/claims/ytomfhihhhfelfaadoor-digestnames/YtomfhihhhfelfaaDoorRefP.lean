/- Plain facts for the document's own Raw. -/
import Derived.Test.YtomfhihhhfelfaaDoorRefX
import Derived.Test.YtomfhihhhfelfaaDoorRefN
import Derived.Test.YtomfhihhhfelfaaDoorRaw
namespace Go.Proofs.YtomfhihhhfelfaaDoor
open Go.RowKit
set_option linter.unusedVariables false

/-- The eight words. -/
def St.nums (s : St) : List Nat := [s.a, s.b, s.c, s.d, s.e, s.f, s.g, s.h]

/-- The eight words as cells. -/
def St.ints (s : St) : List Value := s.nums.map iv

theorem ints_length (s : St) : s.ints.length = 8 := rfl

theorem ints_one (s : St) : ∀ u ∈ s.ints, u.oneCell' = true := by
  intro u hu
  obtain ⟨x, _, rfl⟩ := List.mem_map.1 hu
  rfl

theorem nums_lt {s : St} (h : s.Ok) (i : Nat) : s.nums.getD i 0 < 4294967296 := by
  obtain ⟨h1, h2, h3, h4, h5, h6, h7, h8⟩ := h
  refine getD_lt (fun x hx => ?_) i
  simp only [St.nums, List.mem_cons, List.not_mem_nil, or_false] at hx
  rcases hx with rfl | rfl | rfl | rfl | rfl | rfl | rfl | rfl <;> assumption

theorem ints_at (s : St) (j : Nat) (hj : j < 8) : s.ints[j]? = some (.int .i64 ((s.nums.getD j 0 : Nat) : Int)) := by
  match j, hj with
  | 0, _ => rfl
  | 1, _ => rfl
  | 2, _ => rfl
  | 3, _ => rfl
  | 4, _ => rfl
  | 5, _ => rfl
  | 6, _ => rfl
  | 7, _ => rfl

/-- The row while its words go one place on: those behind place j have gone. -/
def gone (s : St) (j : Nat) : List Value := (s.nums.take (j + 1) ++ (s.nums.drop j).take (7 - j)).map iv

theorem gone_seven (s : St) : gone s 7 = s.ints := rfl

theorem gone_at (s : St) (j : Nat) (hj : j < 7) : (gone s (j + 1))[j]? = some (.int .i64 ((s.nums.getD j 0 : Nat) : Int)) := by
  match j, hj with
  | 0, _ => rfl
  | 1, _ => rfl
  | 2, _ => rfl
  | 3, _ => rfl
  | 4, _ => rfl
  | 5, _ => rfl
  | 6, _ => rfl

theorem gone_old (s : St) (j : Nat) (hj : j < 7) : ∃ n : Nat, (gone s (j + 1))[j + 1]? = some (.int .i64 (n : Int)) := by
  match j, hj with
  | 0, _ => exact ⟨_, rfl⟩
  | 1, _ => exact ⟨_, rfl⟩
  | 2, _ => exact ⟨_, rfl⟩
  | 3, _ => exact ⟨_, rfl⟩
  | 4, _ => exact ⟨_, rfl⟩
  | 5, _ => exact ⟨_, rfl⟩
  | 6, _ => exact ⟨_, rfl⟩

theorem gone_step (s : St) (j : Nat) (hj : j < 7) : (gone s (j + 1)).set (j + 1) (.int .i64 ((s.nums.getD j 0 : Nat) : Int)) = gone s j := by
  match j, hj with
  | 0, _ => rfl
  | 1, _ => rfl
  | 2, _ => rfl
  | 3, _ => rfl
  | 4, _ => rfl
  | 5, _ => rfl
  | 6, _ => rfl

/-- A round's end: two words are written. -/
theorem gone_round (s : St) (k w : Nat) : ((gone s 0).set 0 (iv (rnd s k w).a)).set 4 (iv (rnd s k w).e) = (rnd s k w).ints := rfl

/-- The row while a round's words are added: the first i have been. -/
def added (s r : St) (i : Nat) : List Value := ((s.plus r).nums.take i ++ s.nums.drop i).map iv

theorem added_zero (s r : St) : added s r 0 = s.ints := rfl

theorem added_eight (s r : St) : added s r 8 = (s.plus r).ints := rfl

theorem added_length (s r : St) (i : Nat) (hi : i ≤ 8) : (added s r i).length = 8 := by
  simp [added, St.nums]
  omega

theorem added_at (s r : St) (i : Nat) (hi : i < 8) : (added s r i)[i]? = some (.int .i64 ((s.nums.getD i 0 : Nat) : Int)) := by
  match i, hi with
  | 0, _ => rfl
  | 1, _ => rfl
  | 2, _ => rfl
  | 3, _ => rfl
  | 4, _ => rfl
  | 5, _ => rfl
  | 6, _ => rfl
  | 7, _ => rfl

theorem added_step (s r : St) (i : Nat) (hi : i < 8) : (added s r i).set i (iv ((s.nums.getD i 0 + r.nums.getD i 0) % 4294967296)) = added s r (i + 1) := by
  match i, hi with
  | 0, _ => rfl
  | 1, _ => rfl
  | 2, _ => rfl
  | 3, _ => rfl
  | 4, _ => rfl
  | 5, _ => rfl
  | 6, _ => rfl
  | 7, _ => rfl

/-- What is owned stays so while only younger memory is written. -/
theorem owns_below {w w' : World} {base B : Nat} {e : TypeId} {size : Nat} {v : Value} {n : Nat} {xs : List Value} (h : w.ownsRow base e size v n xs) (hb : Below B w w') (hB : w.heap.size ≤ B) : w'.ownsRow base e size v n xs := by
  refine ⟨h.1, ?_⟩
  rcases h.2 with hn | ⟨g, cap, cur, rfl, hb1, hg, rest⟩
  · exact .inl hn
  · exact .inr ⟨g, cap, cur, rfl, hb1, (hb.block g (by have := block_lt hg; omega)).trans hg, rest⟩

theorem not_eq (x n : Nat) (w : World) (h : x + n = 4294967295) :
    Calls Tryd.prog 32 #[.int .i64 x] w fun e w' => e = .returned (.int .i64 (n : Int)) ∧ w' = w := by
  have := not_any x w (by omega)
  rwa [show 4294967295 - x = n by omega] at this

/-- The bytes that are put behind. -/
def tailOf (n : Nat) : Nat := (119 - n % 64) % 64

theorem tail_more (n j : Nat) (h : j < tailOf n) : ¬ (n + 1 + j) % 64 = 56 := by
  unfold tailOf at h
  omega

theorem tail_end (n : Nat) : (n + 1 + tailOf n) % 64 = 56 := by
  unfold tailOf
  omega

theorem tail_lt (n : Nat) : tailOf n < 64 := Nat.mod_lt _ (by decide)

theorem padded_eq (bs : List UInt8) : padded bs = bs ++ [128] ++ List.replicate (tailOf bs.length) 0 ++ be (8 * bs.length) 8 := rfl

theorem padded_len (bs : List UInt8) : (padded bs).length = bs.length + 1 + tailOf bs.length + 8 := by
  rw [padded_eq]
  simp [be_length]
  omega

theorem padded_whole (bs : List UInt8) : (padded bs).length = 64 * ((padded bs).length / 64) := by
  have h1 := padded_len bs
  have h2 := tail_end bs.length
  omega

theorem u64of_nat (n : Nat) (h : n < 18446744073709551616) : u64of (n : Int) = n := by
  unfold u64of
  omega

/-- Two empty blocks: the result's, and an empty row. -/
theorem made_two (w : World) (o : Obj) (e : TypeId) : ((w.alloc o).alloc (.cells #[] e)).ownsRow (w.heap.size + 1) e 1 (.slice (some ⟨w.heap.size + 1, 0, none⟩) 0 0) 0 [] := by
  have := World.ownsRow_made (base := w.heap.size + 1) (e := e) (size := 1) (w.alloc o) #[] 0 (by simp) (by unfold maxLen; omega) rfl
  rwa [show (w.alloc o).heap.size = w.heap.size + 1 by simp] at this
end Go.Proofs.YtomfhihhhfelfaaDoor
