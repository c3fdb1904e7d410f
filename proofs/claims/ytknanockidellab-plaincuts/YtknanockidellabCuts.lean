/- For every list of slices of bytes and every int, PlainCuts returns true. -/
import Derived.Test.YtknanockidellabSmall
import Derived.Test.YtknanockidellabCodec
namespace Go.Proofs.Ytknanockidellab
open Go.RowKit
set_option linter.unusedVariables false

theorem wide_take_le (rows : List (List UInt8)) (h : fits rows) (hl : rows.length ≤ 4096) (k : Nat) : wide (rows.take k) ≤ 268451840 := by
  have h1 := wide_le (rows.take k) fun r hr => h r (List.mem_of_mem_take hr)
  have h2 : (rows.take k).length ≤ 4096 := by simp; omega
  omega

theorem rowBytes_length (rows : List (List UInt8)) : (rowBytes rows).length = 4 + wide rows := by simp [rowBytes, be_length, blobs_length]

set_option maxHeartbeats 2000000 in
theorem cuts_bad (B : Nat) (v : Value) (cut : Int) (rows : List (List UInt8)) (w : World) (hB : B ≤ w.heap.size) (hL : Lists B w v rows) (hbad : (rowOf rows).1 ≠ 0) :
    Calls Try.prog 3 #[v, .int .i64 cut] w fun e w' => e = .returned (.bool true) ∧ Below w.heap.size w w' := by
  have hz' : (((rowOf rows).1 : Int) != 0) = true := by rw [bne_iff_ne]; omega
  have hnil : (rowOf rows).2 = [] := by
    unfold rowOf at hbad ⊢
    split
    · rfl
    · rename_i h; rw [if_neg h] at hbad; exact absurd rfl hbad
  go_enter Try.func3, Try.ntmps3
  go_wp2_with fail
  refine (small_any w).mono ?_
  rintro e w1 ⟨rfl, hb1⟩
  have hsz1 := hb1.size
  go_wp2_with fail
  refine (row_any B v rows w1 (by omega) (hL.below (hb1.mono hB))).mono ?_
  rintro e w2 ⟨v2, rfl, hown2, hbel2⟩
  have hb2 := hb1.trans (hbel2.mono hsz1)
  rw [hnil] at hown2
  obtain ⟨a2, c2, rfl⟩ : ∃ a c, v2 = .slice a 0 c := by
    rcases hown2.2 with ⟨e, h0⟩ | ⟨g, cap, _, e, _⟩
    · exact ⟨_, _, e⟩
    · exact ⟨_, _, e⟩
  generalize (rowOf rows).1 = r at *
  clear hown2 hbel2 hb1 hL hnil
  go_wp2
  go_ret
  exact ⟨rfl, hb2⟩

set_option maxHeartbeats 2000000 in
theorem cuts_good (B : Nat) (a : Option Addr) (c : Nat) (cut : Int) (rows : List (List UInt8)) (w : World) (hB : B ≤ w.heap.size) (hL : Lists B w (.slice a rows.length c) rows) (hgood : (rowOf rows).1 = 0) (h0 : -9223372036854775808 ≤ cut) (h1 : cut ≤ 9223372036854775807) :
    Calls Try.prog 3 #[.slice a rows.length c, .int .i64 cut] w fun e w' => e = .returned (.bool true) ∧ Below w.heap.size w w' := by
  obtain ⟨hl, hfit, hro⟩ := rowOf_ok rows hgood
  clear hgood
  go_enter Try.func3, Try.ntmps3
  go_wp2_with fail
  refine (small_any w).mono ?_
  rintro e w1 ⟨rfl, hb1⟩
  have hsz1 := hb1.size
  go_wp2_with fail
  refine (row_any B _ rows w1 (by omega) (hL.below (hb1.mono hB))).mono ?_
  rintro e w2 ⟨v2, rfl, hown2, hbel2⟩
  have hb2 := hb1.trans (hbel2.mono hsz1)
  have hsz2 := hb2.size
  rw [hro] at hown2 ⊢
  have hlen := rowBytes_length rows
  have hwl := wide_take_le rows hfit hl
  have HW := hid hwl
  have hwr : wide rows ≤ 268451840 := by have := hwl rows.length; rwa [List.take_of_length_le (Nat.le_refl _)] at this
  simp only at hown2 ⊢
  have hsh2 := (shows_of_owns hown2).2
  have HC := hid (trow_cut rows · hl hfit)
  obtain ⟨g2, c2, rfl⟩ : ∃ g c, v2 = .slice (some ⟨g, 0, none⟩) (4 + wide rows) c := by
    rw [hlen] at hown2
    rcases hown2.2 with ⟨e, h0⟩ | ⟨g, cap, _, e, _⟩
    · omega
    · exact ⟨_, _, e⟩
  have hL2 := hL.below (hb2.mono hB)
  have hc2 : 4 + wide rows ≤ c2 := by
    obtain ⟨_, _, e, h, _⟩ := hsh2
    simp only [Value.slice.injEq] at e
    omega
  have HS := hid hsh2
  have HLN := hid hlen
  clear hown2 hbel2 hb1 hL hro hwl hsh2 hlen
  go_wp2_with fail
  go_loop [8, 9] (fun s i => ∃ k : Nat, k ≤ rows.length ∧ i = .int .i64 k ∧ s = .int .i64 (4 + wide (rows.take k) : Nat)) (fun _ i => rows.length - (intOf i).toNat)
  case atStart => exact ⟨0, Nat.zero_le _, rfl, rfl⟩
  case round =>
    obtain ⟨k, hk, rfl, rfl⟩ := hrel
    by_cases hlt : k < rows.length
    · obtain ⟨b, off, ak, ck, rfl, hcell, hsh⟩ := hL2.at k hlt
      have HT := hid (wide_take rows k hlt)
      have hwk := HW.out k
      have hle : (rows[k]?.getD []).length ≤ 65536 := hfit _ (by rw [List.getElem?_eq_getElem hlt]; exact List.getElem_mem hlt)
      generalize rows[k]?.getD [] = r at *
      go_wp2
      go_round
      case rel =>
        refine ⟨k + 1, by omega, by go_num, ?_⟩
        have := HT.out
        refine congrArg (Value.int .i64) ?_
        omega
      case measure => simp [intOf]; omega
    · have htk : rows.take k = rows := List.take_of_length_le (by omega)
      rw [htk]
      clear htk hL2 HW
      have ht1 := Int.tmod_lt_of_pos cut (show (0 : Int) < 4 + (wide rows : Int) by omega)
      have ht2 : -(4 + (wide rows : Int)) < cut.tmod (4 + (wide rows : Int)) := by
        have h := Int.tmod_lt_of_pos (-cut) (show (0 : Int) < 4 + (wide rows : Int) by omega)
        rw [Int.neg_tmod] at h
        omega
      generalize wide rows = W at *
      go_wp2_with fail
      all_goals
        refine (takeRow_any w2.heap.size _ ((rowBytes rows).take _) w2 (HS.out.take _ (by rw [HLN.out]; omega)) (Nat.le_refl _)).mono ?_
        rintro e w3 ⟨v3, rfl, hrows, hbel3⟩
        have hb3 := hb2.trans (hbel3.mono hsz2)
        rw [HC.out _ (by rw [HLN.out]; omega)]
        clear hrows hbel3 hb2 HC
        go_wp2
        go_ret
        exact ⟨rfl, hb3⟩

theorem cuts_any (B : Nat) (v : Value) (cut : Int) (rows : List (List UInt8)) (w : World) (hB : B ≤ w.heap.size) (hL : Lists B w v rows) (h0 : -9223372036854775808 ≤ cut) (h1 : cut ≤ 9223372036854775807) :
    Calls Try.prog 3 #[v, .int .i64 cut] w fun e w' => e = .returned (.bool true) ∧ Below w.heap.size w w' := by
  by_cases h : (rowOf rows).1 = 0
  · have hL0 := hL
    obtain ⟨a, c, vs, rfl, _⟩ := hL
    exact cuts_good B a c cut rows w hB hL0 h h0 h1
  · exact cuts_bad B v cut rows w hB hL h

theorem cuts_law (v : Value) (rows : List (List UInt8)) (cut : Int) (w : World) (hL : Lists w.heap.size w v rows) (h0 : -9223372036854775808 ≤ cut) (h1 : cut ≤ 9223372036854775807) :
    Calls Try.prog 3 #[v, .int .i64 cut] w fun e w' => e = .returned (.bool true) ∧ Below w.heap.size w w' :=
  cuts_any w.heap.size v cut rows w (Nat.le_refl _) hL h0 h1
end Go.Proofs.Ytknanockidellab
