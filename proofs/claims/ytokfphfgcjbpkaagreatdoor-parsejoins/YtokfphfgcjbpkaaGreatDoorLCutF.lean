/- Contracts of lex.cutName, cutWord, cutNumber, cutText, cutSign (written by tools/lcut.py). -/
import Derived.Test.YtokfphfgcjbpkaaGreatDoorLLow
import Derived.Deep.RegionHeld3
namespace Go.Proofs.YtokfphfgcjbpkaaGreatDoor
open Go.RowKit Go.Shelf
set_option linter.unusedVariables false
set_option linter.unusedSimpArgs false
set_option maxRecDepth 20000

/-- The numbers of this seat for those of the library's contract. -/
def renC : Ren := ⟨fun x => if x = 25 then 74 else x, fun x => if x = 0 then 0 else if x = 3 then 3 else if x = 4 then 4 else if x = 5 then 5 else if x = 9 then 9 else if x = 37 then 106 else if x = 47 then 135 else x, fun x => x⟩

theorem laysC : LaysPu.n25 Tryz.prog renC where
  mixed := by kernel_rfl
  f25 := by kernel_rfl
  t0 := by kernel_rfl
  a0 := fun w => by kernel_rfl
  z0 := fun w => by kernel_rfl
  v0 := fun w => by kernel_rfl
  i0 := by kernel_rfl
  t3 := by kernel_rfl
  a3 := fun w => by kernel_rfl
  z3 := fun w => by kernel_rfl
  v3 := fun w => by kernel_rfl
  i3 := by kernel_rfl
  t4 := by kernel_rfl
  a4 := fun w => by kernel_rfl
  z4 := fun w => by kernel_rfl
  v4 := fun w => by kernel_rfl
  i4 := by kernel_rfl
  t5 := by kernel_rfl
  a5 := fun w => by kernel_rfl
  z5 := fun w => by kernel_rfl
  v5 := fun w => by kernel_rfl
  i5 := by kernel_rfl
  t9 := by kernel_rfl
  a9 := fun w => by kernel_rfl
  z9 := fun w => by kernel_rfl
  v9 := fun w => by kernel_rfl
  i9 := by kernel_rfl
  t37 := by kernel_rfl
  a37 := fun w => by kernel_rfl
  z37 := fun w => by kernel_rfl
  v37 := fun w => by kernel_rfl
  i37 := by kernel_rfl
  t47 := by kernel_rfl
  a47 := fun w => by kernel_rfl
  z47 := fun w => by kernel_rfl
  v47 := fun w => by kernel_rfl
  i47 := by kernel_rfl

set_option maxHeartbeats 1000000 in
theorem strClone_any (s : ByteArray) (w : World) (hs : s.size ≤ 140737488355328) : Calls Tryz.prog 32 #[.string s] w fun e w' => e = .returned (.string s) ∧ Below w.heap.size w w' := by
  have HC := hid (AnyPu.stringslite_Clone laysC s w (by omega))
  go_enter Tryz.func32, Tryz.ntmps32
  go_wp2_with fail
  refine HC.out.mono ?_
  rintro e w1 ⟨rfl, h1⟩
  go_wp2
  go_ret
  exact ⟨rfl, h1⟩

/-- A token as a value. -/
def tkA (t : Tk) : Value := .agg #[.int .i64 t.k, .string (str8 t.s), .int .i64 t.n, .int .i64 t.p]

/-- What a cut answers. -/
def cutA (x : Nat × Tk × Nat) : Value := .tuple #[.agg #[.int .i64 x.2.1.k, .string (str8 x.2.1.s), .int .i64 x.2.1.n, .int .i64 x.2.1.p], .int .i64 (x.2.2 : Int), .int .i64 (x.1 : Int)]

theorem cells4 {w : World} {g : Nat} {a b c d : Value} {t : TypeId} (h : w.heap[g]? = some (.cells #[a, b, c, d] t)) :
    w.cell? ⟨g, 0, none⟩ = some a ∧ w.cell? ⟨g, 1, none⟩ = some b ∧ w.cell? ⟨g, 2, none⟩ = some c ∧ w.cell? ⟨g, 3, none⟩ = some d ∧ ∀ i, w.frozen? ⟨g, i, none⟩ = false :=
  ⟨by rw [cell_row _ _ _ _ _ _ h]; rfl, by rw [cell_row _ _ _ _ _ _ h]; rfl, by rw [cell_row _ _ _ _ _ _ h]; rfl, by rw [cell_row _ _ _ _ _ _ h]; rfl, fun i => by simp [World.frozen?, h]⟩

/-- A box: a block of four cells, behind whatever is made later. -/
theorem box4 (w : World) (a b c d : Value) (t : TypeId) : ∃ W, w.alloc (.cells #[a, b, c, d] t) = W ∧ Below w.heap.size w W ∧ w.heap.size < W.heap.size ∧ ∀ W', Below W.heap.size W W' → W'.heap[w.heap.size]? = some (.cells #[a, b, c, d] t) :=
  ⟨_, rfl, (Below.refl _ _).alloc (Nat.le_refl _) _, by simp, fun W' h => (h.block _ (by simp)).trans (heap_alloc_new w _)⟩

theorem cutA_bad (e : Nat) : cutA (e, zTk, 0) = .tuple #[.agg #[.int .i64 0, .string ⟨#[]⟩, .int .i64 0, .int .i64 0], .int .i64 0, .int .i64 (e : Int)] := rfl

theorem e4 : cutA (4, zTk, 0) = .tuple #[.agg #[.int .i64 0, .string ⟨#[]⟩, .int .i64 0, .int .i64 0], .int .i64 0, .int .i64 4] := rfl
theorem e2 : cutA (2, zTk, 0) = .tuple #[.agg #[.int .i64 0, .string ⟨#[]⟩, .int .i64 0, .int .i64 0], .int .i64 0, .int .i64 2] := rfl
theorem e3 : cutA (3, zTk, 0) = .tuple #[.agg #[.int .i64 0, .string ⟨#[]⟩, .int .i64 0, .int .i64 0], .int .i64 0, .int .i64 3] := rfl
theorem e7 : cutA (7, zTk, 0) = .tuple #[.agg #[.int .i64 0, .string ⟨#[]⟩, .int .i64 0, .int .i64 0], .int .i64 0, .int .i64 7] := rfl
theorem eNum (v : Int) (n : Nat) : cutA (0, ⟨3, [], v, 0⟩, n) = .tuple #[.agg #[.int .i64 3, .string ⟨#[]⟩, .int .i64 v, .int .i64 0], .int .i64 (n : Int), .int .i64 0] := rfl
theorem eTxt (k : Int) (t : List UInt8) (n : Nat) : cutA (0, ⟨k, t, 0, 0⟩, n) = .tuple #[.agg #[.int .i64 k, .string (str8 t), .int .i64 0, .int .i64 0], .int .i64 (n : Int), .int .i64 0] := rfl

theorem words_any (w : World) : Calls Tryz.prog 109 #[] w fun e w' => e = .returned (.slice (some ⟨w.heap.size, 0, none⟩) 33 33) ∧ w' = w.alloc (.cells ((wordsB.map fun l => Value.string (str8 l)).toArray) 9) := by
  go_enter Tryz.func109, Tryz.ntmps109
  go_wp2
  go_ret
  exact ⟨rfl, rfl⟩

/-- A word among the words. -/
theorem known_any (t : List UInt8) (B : Nat) (w : World) (h : w.heap[B]? = some (.cells ((wordsB.map fun l => Value.string (str8 l)).toArray) 9)) : Calls Tryz.prog 108 #[.slice (some ⟨B, 0, none⟩) 33 33, .string (str8 t)] w fun e w' => e = .returned (.bool (wordsB.contains t)) ∧ w' = w := by
  have hl : (wordsB.map str8).length = 33 := rfl
  have := Any.slices_Contains_string laysCo B 0 33 33 (wordsB.map str8) (str8 t) w (by rw [hl]; decide) (by decide) (fun j hj => by
    rw [cell_row _ _ _ _ _ _ h]
    rw [hl] at hj
    rw [List.getElem?_toArray, Nat.zero_add, List.getElem?_map]
    have hj' : j < wordsB.length := hj
    rw [List.getElem?_eq_getElem hj']
    simp [List.getD, List.getElem?_eq_getElem hj'])
  rw [numL.2.2.2.2.1] at this
  have e : Lib.containsS ((wordsB.map str8).take 33) (str8 t) = wordsB.contains t := by
    rw [List.take_of_length_le (by rw [hl]; decide), Bool.eq_iff_iff, Lib.containsS_iff, List.contains_iff_mem, List.mem_map]
    refine ⟨fun ⟨x, hx, he⟩ => by rw [← str8_inj he]; exact hx, fun h => ⟨t, h, rfl⟩⟩
  rw [e] at this
  exact this

set_option maxHeartbeats 1000000 in
theorem cutName_any (s : List UInt8) (w : World) (hs : s.length ≤ 140737488351232) : Calls Tryz.prog 67 #[.string (str8 s)] w fun e w' => e = .returned (cutA (cutNameT s)) ∧ Below w.heap.size w w' := by
  have HO : Hid (∀ w, Calls Tryz.prog 62 #[.string ⟨#[97, 98, 99, 100, 101, 102, 103, 104, 105, 106, 107, 108, 109, 110, 111, 112, 113, 114, 115, 116, 117, 118, 119, 120, 121, 122, 95, 48, 49, 50, 51, 52, 53, 54, 55, 56, 57]⟩] w fun e w' => (e = .returned (.func (.func 104) #[] #[.pointer (some ⟨w.heap.size, 0, none⟩)]) ∧ PredS 104 #[.pointer (some ⟨w.heap.size, 0, none⟩)] (inS nameB) w') ∧ Below w.heap.size w w') := hid (fun w => oneOf_tells nameB w)
  have hle := row_le (inS nameB) s
  have HW := hid (fun B w1 hp => rowOne_any s nameB B w1 hs hp)
  have HR := hid (fun w => runsOn_any (s.drop (row (inS nameB) s)) w (by rw [List.length_drop]; omega))
  have hd : cutNameT s = if runsB (s.drop (row (inS nameB) s)) = true then (4, zTk, 0) else if 16 < row (inS nameB) s then (2, zTk, 0) else (0, ⟨1, s.take (row (inS nameB) s), 0, 0⟩, row (inS nameB) s) := rfl
  rw [hd]
  clear hd
  generalize row (inS nameB) s = n at HW HR hle ⊢
  have hs1 := run_cutfrom s n hle
  have hs2 := run_cutto s n hle
  have hlt : (s.take n).length ≤ s.length := by rw [List.length_take]; omega
  have HC := hid (fun w => strClone_any (str8 (s.take n)) w (by rw [str8_size]; omega))
  clear hlt
  generalize s.drop n = r at HR hs1 ⊢
  generalize s.take n = t at HC hs2 ⊢
  obtain ⟨W, hW, hbW, hzW, hcW⟩ := box4 w (.int .i64 0) (.string ⟨#[]⟩) (.int .i64 0) (.int .i64 0) 71
  have HCW := hid hcW
  have HB := hid hbW
  clear hcW hbW
  cases hr : runsB r with
  | true =>
    rw [hr] at HR
    rw [if_pos rfl, e4]
    clear hr
    go_enter Tryz.func67, Tryz.ntmps67
    go_wp2_with fail
    try rw [hW]
    clear hW
    refine (HO.out _).mono ?_
    rintro e w1 ⟨⟨rfl, hp⟩, hb1⟩
    go_wp2_with fail
    refine (HW.out _ _ hp).mono ?_
    rintro e w2 ⟨rfl, hw⟩
    obtain rfl : w1 = w2 := hw.symm
    clear hw hp
    go_wp2_with fail
    refine (HR.out _).mono ?_
    rintro e w3 ⟨rfl, hb3⟩
    have HD := hid (hb1.trans (hb3.mono hb1.size))
    clear hb1 hb3
    have HE : Hid (Below w.heap.size w w3) := hid (HB.out.trans (HD.out.mono (Nat.le_of_lt hzW)))
    have g0 := cells4 (HCW.out w3 HD.out)
    go_wp2
    exact bodyPost_ret (v := .tuple #[.agg #[.int .i64 0, .string ⟨#[]⟩, .int .i64 0, .int .i64 0], .int .i64 0, .int .i64 4]) (by simp [results, Tryz.results67, go_sem, g0]) rfl ⟨rfl, (((HE.out.setCell (Nat.le_refl _) _).setCell (Nat.le_refl _) _).setCell (Nat.le_refl _) _).setCell (Nat.le_refl _) _⟩
  | false =>
    rw [hr] at HR
    rw [if_neg (by simp)]
    clear hr
    by_cases h16 : 16 < n
    · rw [if_pos h16, e2]
      go_enter Tryz.func67, Tryz.ntmps67
      go_wp2_with fail
      try rw [hW]
      clear hW
      refine (HO.out _).mono ?_
      rintro e w1 ⟨⟨rfl, hp⟩, hb1⟩
      go_wp2_with fail
      refine (HW.out _ _ hp).mono ?_
      rintro e w2 ⟨rfl, hw⟩
      obtain rfl : w1 = w2 := hw.symm
      clear hw hp
      go_wp2_with fail
      refine (HR.out _).mono ?_
      rintro e w3 ⟨rfl, hb3⟩
      have HD := hid (hb1.trans (hb3.mono hb1.size))
      clear hb1 hb3
      have HE : Hid (Below w.heap.size w w3) := hid (HB.out.trans (HD.out.mono (Nat.le_of_lt hzW)))
      have g0 := cells4 (HCW.out w3 HD.out)
      go_wp2
      exact bodyPost_ret (v := .tuple #[.agg #[.int .i64 0, .string ⟨#[]⟩, .int .i64 0, .int .i64 0], .int .i64 0, .int .i64 2]) (by simp [results, Tryz.results67, go_sem, g0]) rfl ⟨rfl, (((HE.out.setCell (Nat.le_refl _) _).setCell (Nat.le_refl _) _).setCell (Nat.le_refl _) _).setCell (Nat.le_refl _) _⟩
    · rw [if_neg h16, eTxt]
      go_enter Tryz.func67, Tryz.ntmps67
      go_wp2_with fail
      try rw [hW]
      clear hW
      refine (HO.out _).mono ?_
      rintro e w1 ⟨⟨rfl, hp⟩, hb1⟩
      go_wp2_with fail
      refine (HW.out _ _ hp).mono ?_
      rintro e w2 ⟨rfl, hw⟩
      obtain rfl : w1 = w2 := hw.symm
      clear hw hp
      go_wp2_with fail
      refine (HR.out _).mono ?_
      rintro e w3 ⟨rfl, hb3⟩
      have HD := hid (hb1.trans (hb3.mono hb1.size))
      clear hb1 hb3
      go_wp2_with fail
      refine (HC.out _).mono ?_
      rintro e w4 ⟨rfl, hb4⟩
      have HD4 := hid (HD.out.trans (hb4.mono HD.out.size))
      have HE : Hid (Below w.heap.size w w4) := hid (HB.out.trans (HD4.out.mono (Nat.le_of_lt hzW)))
      have g0 := cells4 (HCW.out w4 HD4.out)
      clear hb4
      go_wp2
      exact bodyPost_ret (v := .tuple #[.agg #[.int .i64 1, .string (str8 t), .int .i64 0, .int .i64 0], .int .i64 (n : Int), .int .i64 0]) (by simp [results, Tryz.results67, go_sem, g0]) rfl ⟨rfl, (((HE.out.setCell (Nat.le_refl _) _).setCell (Nat.le_refl _) _).setCell (Nat.le_refl _) _).setCell (Nat.le_refl _) _⟩

set_option maxHeartbeats 1000000 in
theorem cutWord_any (s : List UInt8) (w : World) (hs : s.length ≤ 140737488351232) : Calls Tryz.prog 68 #[.string (str8 s)] w fun e w' => e = .returned (cutA (cutWordT s)) ∧ Below w.heap.size w w' := by
  have HO : Hid (∀ w, Calls Tryz.prog 62 #[.string ⟨#[65, 66, 67, 68, 69, 70, 71, 72, 73, 74, 75, 76, 77, 78, 79, 80, 81, 82, 83, 84, 85, 86, 87, 88, 89, 90]⟩] w fun e w' => (e = .returned (.func (.func 104) #[] #[.pointer (some ⟨w.heap.size, 0, none⟩)]) ∧ PredS 104 #[.pointer (some ⟨w.heap.size, 0, none⟩)] (inS upsB) w') ∧ Below w.heap.size w w') := hid (fun w => oneOf_tells upsB w)
  have hle := row_le (inS upsB) s
  have HW := hid (fun B w1 hp => rowOne_any s upsB B w1 hs hp)
  have HR := hid (fun w => runsOn_any (s.drop (row (inS upsB) s)) w (by rw [List.length_drop]; omega))
  have hd : cutWordT s = if runsB (s.drop (row (inS upsB) s)) = true then (4, zTk, 0) else if wordsB.contains (s.take (row (inS upsB) s)) = false then (4, zTk, 0) else (0, ⟨2, s.take (row (inS upsB) s), 0, 0⟩, row (inS upsB) s) := rfl
  rw [hd]
  clear hd
  generalize row (inS upsB) s = n at HW HR hle ⊢
  have hs1 := run_cutfrom s n hle
  have hs2 := run_cutto s n hle
  have hlt : (s.take n).length ≤ s.length := by rw [List.length_take]; omega
  have HC := hid (fun w => strClone_any (str8 (s.take n)) w (by rw [str8_size]; omega))
  clear hlt
  generalize s.drop n = r at HR hs1 ⊢
  generalize s.take n = t at HC hs2 ⊢
  have HN := hid (fun B w h => known_any t B w h)
  obtain ⟨W, hW, hbW, hzW, hcW⟩ := box4 w (.int .i64 0) (.string ⟨#[]⟩) (.int .i64 0) (.int .i64 0) 71
  have HCW := hid hcW
  have HB := hid hbW
  clear hcW hbW
  cases hr : runsB r with
  | true =>
    rw [hr] at HR
    rw [if_pos rfl, e4]
    clear hr HN HC
    go_enter Tryz.func68, Tryz.ntmps68
    go_wp2_with fail
    try rw [hW]
    clear hW
    refine (HO.out _).mono ?_
    rintro e w1 ⟨⟨rfl, hp⟩, hb1⟩
    go_wp2_with fail
    refine (HW.out _ _ hp).mono ?_
    rintro e w2 ⟨rfl, hw⟩
    obtain rfl : w1 = w2 := hw.symm
    clear hw hp
    have HD1 : Hid (Below W.heap.size W w1.drew) := hid (below_drewN hb1 1)
    clear hb1
    go_wp2_with fail
    refine wp_region_quiet (C := fun W' => Below W.heap.size W W') (by kernel_rfl) (by kernel_rfl) HD1.out ?_
    dsimp only
    go_big_quiet_step ((intro _; rfl))
    go_big_quiet_step ((intro _; rfl))
    go_big_quiet_step ((intro _; rfl))
    go_big_quiet_want
    go_big_quiet_op
    refine ⟨_, fun W1 hW1 => (HR.out W1).mono (fun e w'' ⟨he, hb⟩ => ⟨he, hW1.trans (hb.mono hW1.size)⟩), ?_⟩
    go_big_quiet_on
    repeat go_big_quiet_step ((intro _; rfl))
    refine wpQuiet_nil ?_
    intro w3 hD3
    have HD := hid hD3
    clear hD3
    have HE : Hid (Below w.heap.size w w3) := hid (HB.out.trans (HD.out.mono (Nat.le_of_lt hzW)))
    have g0 := cells4 (HCW.out w3 HD.out)
    go_wp2
    exact bodyPost_ret (v := .tuple #[.agg #[.int .i64 0, .string ⟨#[]⟩, .int .i64 0, .int .i64 0], .int .i64 0, .int .i64 4]) (by simp [results, Tryz.results68, go_sem, g0]) rfl ⟨rfl, (((HE.out.setCell (Nat.le_refl _) _).setCell (Nat.le_refl _) _).setCell (Nat.le_refl _) _).setCell (Nat.le_refl _) _⟩
  | false =>
    rw [hr] at HR
    rw [if_neg (by simp)]
    clear hr
    cases hk : wordsB.contains t with
    | false =>
      rw [hk] at HN
      rw [if_pos rfl, e4]
      clear hk HC
      go_enter Tryz.func68, Tryz.ntmps68
      go_wp2_with fail
      try rw [hW]
      clear hW
      refine (HO.out _).mono ?_
      rintro e w1 ⟨⟨rfl, hp⟩, hb1⟩
      go_wp2_with fail
      refine (HW.out _ _ hp).mono ?_
      rintro e w2 ⟨rfl, hw⟩
      obtain rfl : w1 = w2 := hw.symm
      clear hw hp
      go_wp2_with fail
      have HD1 : Hid (Below W.heap.size W w1.drew) := hid (below_drewN hb1 1)
      clear hb1
      go_region_held3 (fun _ => True) (first | trivial) (first
        | (go_at_call 107; refine (HR.out _).mono ?_; rintro e w3 ⟨rfl, hb3⟩
           have HD3 := hid (HD1.out.trans (hb3.mono HD1.out.size))
           clear hb3)
        | (go_at_call 109; refine (words_any _).mono ?_; rintro e w4 ⟨rfl, hw4⟩
           have HK : Hid (w4.heap[w3.heap.size]? = some (.cells ((wordsB.map fun l => Value.string (str8 l)).toArray) 9)) := hid (by rw [hw4]; exact heap_alloc_new _ _)
           have HD := hid (show Below W.heap.size W w4 by rw [hw4]; exact HD3.out.alloc HD3.out.size _)
           clear hw4)
        | (go_at_call 108; refine (HN.out _ w4 HK.out).mono ?_; rintro e w5 ⟨rfl, hw5⟩; rw [hw5]))
      all_goals have HE : Hid (Below w.heap.size w w4) := hid (HB.out.trans (HD.out.mono (Nat.le_of_lt hzW)))
      all_goals have g0 := cells4 (HCW.out w4 HD.out)
      all_goals go_wp2
      all_goals exact bodyPost_ret (v := .tuple #[.agg #[.int .i64 0, .string ⟨#[]⟩, .int .i64 0, .int .i64 0], .int .i64 0, .int .i64 4]) (by simp [results, Tryz.results68, go_sem, g0]) rfl ⟨rfl, (((HE.out.setCell (Nat.le_refl _) _).setCell (Nat.le_refl _) _).setCell (Nat.le_refl _) _).setCell (Nat.le_refl _) _⟩
    | true =>
      rw [hk] at HN
      rw [if_neg (by simp), eTxt]
      clear hk
      go_enter Tryz.func68, Tryz.ntmps68
      go_wp2_with fail
      try rw [hW]
      clear hW
      refine (HO.out _).mono ?_
      rintro e w1 ⟨⟨rfl, hp⟩, hb1⟩
      go_wp2_with fail
      refine (HW.out _ _ hp).mono ?_
      rintro e w2 ⟨rfl, hw⟩
      obtain rfl : w1 = w2 := hw.symm
      clear hw hp
      go_wp2_with fail
      have HD1 : Hid (Below W.heap.size W w1.drew) := hid (below_drewN hb1 1)
      clear hb1
      go_region_held3 (fun _ => True) (first | trivial) (first
        | (go_at_call 107; refine (HR.out _).mono ?_; rintro e w3 ⟨rfl, hb3⟩
           have HD3 := hid (HD1.out.trans (hb3.mono HD1.out.size))
           clear hb3)
        | (go_at_call 109; refine (words_any _).mono ?_; rintro e w4 ⟨rfl, hw4⟩
           have HK : Hid (w4.heap[w3.heap.size]? = some (.cells ((wordsB.map fun l => Value.string (str8 l)).toArray) 9)) := hid (by rw [hw4]; exact heap_alloc_new _ _)
           have HD := hid (show Below W.heap.size W w4 by rw [hw4]; exact HD3.out.alloc HD3.out.size _)
           clear hw4)
        | (go_at_call 108; refine (HN.out _ w4 HK.out).mono ?_; rintro e w5 ⟨rfl, hw5⟩; rw [hw5]))
      all_goals go_wp2_with fail
      all_goals refine (HC.out _).mono ?_
      all_goals rintro e w6 ⟨rfl, hb6⟩
      all_goals have HD6 := hid (HD.out.trans (hb6.mono HD.out.size))
      all_goals have HE : Hid (Below w.heap.size w w6) := hid (HB.out.trans (HD6.out.mono (Nat.le_of_lt hzW)))
      all_goals have g0 := cells4 (HCW.out w6 HD6.out)
      all_goals clear hb6
      all_goals go_wp2
      all_goals exact bodyPost_ret (v := .tuple #[.agg #[.int .i64 2, .string (str8 t), .int .i64 0, .int .i64 0], .int .i64 (n : Int), .int .i64 0]) (by simp [results, Tryz.results68, go_sem, g0]) rfl ⟨rfl, (((HE.out.setCell (Nat.le_refl _) _).setCell (Nat.le_refl _) _).setCell (Nat.le_refl _) _).setCell (Nat.le_refl _) _⟩

end Go.Proofs.YtokfphfgcjbpkaaGreatDoor
