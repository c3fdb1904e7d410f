/- Contracts of lex.cutNumber, cutText, cutSign (written by tools/lcutg.py). -/
import Derived.Test.YtokfphfgcjbpkaaGreatDoorLCutF
namespace Go.Proofs.YtokfphfgcjbpkaaGreatDoor
open Go.RowKit Go.Shelf
set_option linter.unusedVariables false
set_option linter.unusedSimpArgs false
set_option maxRecDepth 20000

theorem parse_digits : ∀ (l : List UInt8) (acc : Nat), (∀ c ∈ l, inS digsB c = true) → Lib.parseUint10 acc l ≠ .syntax
  | [], acc, _ => by simp [Lib.parseUint10]
  | c :: r, acc, h => by
    have hc := h c (by simp)
    have hc2 : 48 ≤ c.toNat ∧ c.toNat ≤ 57 := by
      simp only [inS, digsB, List.contains_iff_mem, List.mem_cons, List.not_mem_nil, or_false] at hc
      rcases hc with rfl | rfl | rfl | rfl | rfl | rfl | rfl | rfl | rfl | rfl <;> decide
    have ih := parse_digits r (acc * 10 + (c.toNat - 48)) (fun d hd => h d (by simp [hd]))
    simp only [Lib.parseUint10]
    rw [if_pos hc2]
    split
    · simp
    · split
      · simp
      · exact ih

theorem atoi_not_syntax {l : List UInt8} (h : ∀ c ∈ l, inS digsB c = true) (hne : l ≠ []) : Lib.atoiAll l ≠ .syntax := by
  match l, hne with
  | c :: r, _ =>
    have hc := h c (by simp)
    have hc2 : ¬ (c.toNat = 43 ∨ c.toNat = 45) ∧ ¬ c.toNat = 45 := by
      simp only [inS, digsB, List.contains_iff_mem, List.mem_cons, List.not_mem_nil, or_false] at hc
      rcases hc with rfl | rfl | rfl | rfl | rfl | rfl | rfl | rfl | rfl | rfl <;> decide
    unfold Lib.atoiAll
    dsimp only
    rw [if_neg hc2.1, Lib.parseMag, if_neg (by simp)]
    have := parse_digits (c :: r) 0 h
    cases hp : Lib.parseUint10 0 (c :: r) with
    | ok u =>
      dsimp only
      split
      · simp
      · split
        · simp
        · simp
    | «syntax» => exact absurd hp this
    | range => simp

theorem below_bytesWorld (w : World) (e : TypeId) (t : ByteArray) : Below w.heap.size w (Lib.bytesWorld w e t) := by
  unfold Lib.bytesWorld
  exact ⟨rfl, rfl, rfl, by simp [World.freeze], fun j hj => by
    simp only [World.freeze]
    have : (w.drew.alloc (.cells (Lib.bytesCells w e t) e)).heap[j]? = w.heap[j]? := ((below_drewN (Below.refl _ w) 1).alloc (Nat.le_refl _) _).block j hj
    split
    · exact this
    · show ((w.drew.alloc (.cells (Lib.bytesCells w e t) e)).heap.modify w.heap.size _)[j]? = _
      rw [Array.getElem?_modify, if_neg (by omega)]; exact this⟩

/-- strconv.Atoi of digits. -/
theorem atoi_any (t : List UInt8) (w : World) (hT : TabL w) (hl : t.length ≤ 140737488351232) (hd : ∀ c ∈ t, inS digsB c = true) (hne : t ≠ []) :
    Calls Tryz.prog 110 #[.string (str8 t)] w fun e w' => ((∃ v, Lib.atoiAll t = .ok v ∧ e = .returned (.tuple #[.int .i64 v, .nilIface])) ∨ (∃ v ty pt, Lib.atoiAll t = .range ∧ e = .returned (.tuple #[.int .i64 v, .iface ty pt]))) ∧ Below w.heap.size w w' := by
  have hns := atoi_not_syntax hd hne
  cases ha : Lib.atoiAll t with
  | ok v =>
    have := Any.strconv_Atoi_ok laysAt (str8 t) (by rw [str8_size]; omega) v ha w
    rw [numL.2.2.2.2.2.1] at this
    refine this.mono fun e w' ⟨he, hw⟩ => ⟨.inl ⟨v, rfl, he⟩, ?_⟩
    rcases hw with rfl | ⟨t, rfl⟩
    · exact Below.refl _ _
    · exact below_bytesWorld _ _ _
  | range =>
    obtain ⟨ev, h1, h2⟩ := hT.rng
    have := Any.strconv_Atoi_range laysAt (str8 t) (by rw [str8_size]; omega) ha ev w (by rw [numG.2]; exact h1) h2
    rw [numL.2.2.2.2.2.1] at this
    exact this.mono fun e w' ⟨N, he, _, _, hb⟩ => ⟨.inr ⟨_, _, _, rfl, he⟩, hb⟩
  | «syntax» => exact absurd ha hns

set_option maxHeartbeats 1000000 in
theorem cutNumber_any (s : List UInt8) (w : World) (hT : TabL w) (hs : s.length ≤ 140737488351232) (h1 : 1 ≤ row (inS digsB) s) : Calls Tryz.prog 69 #[.string (str8 s)] w fun e w' => e = .returned (cutA (cutNumT s)) ∧ Below w.heap.size w w' := by
  have HO : Hid (∀ w, Calls Tryz.prog 62 #[.string ⟨#[48, 49, 50, 51, 52, 53, 54, 55, 56, 57]⟩] w fun e w' => (e = .returned (.func (.func 104) #[] #[.pointer (some ⟨w.heap.size, 0, none⟩)]) ∧ PredS 104 #[.pointer (some ⟨w.heap.size, 0, none⟩)] (inS digsB) w') ∧ Below w.heap.size w w') := hid (fun w => oneOf_tells digsB w)
  have hle := row_le (inS digsB) s
  have HW := hid (fun B w1 hp => rowOne_any s digsB B w1 hs hp)
  have HR := hid (fun w => runsOn_any (s.drop (row (inS digsB) s)) w (by rw [List.length_drop]; omega))
  have hd : cutNumT s = if runsB (s.drop (row (inS digsB) s)) = true then (4, zTk, 0) else numT (row (inS digsB) s) (Lib.atoiAll (s.take (row (inS digsB) s))) := rfl
  rw [hd]
  clear hd
  have hall := take_row_all (inS digsB) s
  have hne : s.take (row (inS digsB) s) ≠ [] := fun e => by have := congrArg List.length e; rw [List.length_take, List.length_nil] at this; omega
  generalize hrow : row (inS digsB) s = n at HW HR hle hall hne h1 ⊢
  clear hrow
  have hs1 := run_cutfrom s n hle
  have hs2 := run_cutto s n hle
  have hlt : (s.take n).length ≤ s.length := by rw [List.length_take]; omega
  obtain ⟨W, hW, hbW, hzW, hcW⟩ := box4 w (.int .i64 0) (.string ⟨#[]⟩) (.int .i64 0) (.int .i64 0) 71
  have HCW := hid hcW
  have HB := hid hbW
  clear hcW hbW
  have HTW := hid (hT.on HB.out)
  have HA := hid (fun w (h : TabL w) => atoi_any (s.take n) w h (by omega) hall hne)
  clear hlt hall hne hT
  generalize s.drop n = r at HR hs1 ⊢
  generalize s.take n = t at HA hs2 ⊢
  cases hr : runsB r with
  | true =>
    rw [hr] at HR
    rw [if_pos rfl, e4]
    clear hr
    go_enter Tryz.func69, Tryz.ntmps69
    go_wp2_with fail
    try rw [hW]
    clear hW
    refine (HO.out _).mono ?_
    rintro e w1 ⟨⟨rfl, hp⟩, hb1⟩
    go_wp2_with fail
    refine (HW.out _ _ hp).mono ?_
    rintro e w2 ⟨rfl, hw⟩
    obtain rfl : w1 = w2 := hw.symm
    clear hw hp
    go_wp2_with fail
    refine (HR.out _).mono ?_
    rintro e w3 ⟨rfl, hb3⟩
    have HD := hid (hb1.trans (hb3.mono hb1.size))
    clear hb1 hb3
    have HE : Hid (Below w.heap.size w w3) := hid (HB.out.trans (HD.out.mono (Nat.le_of_lt hzW)))
    have g0 := cells4 (HCW.out w3 HD.out)
    go_wp2
    exact bodyPost_ret (v := .tuple #[.agg #[.int .i64 0, .string ⟨#[]⟩, .int .i64 0, .int .i64 0], .int .i64 0, .int .i64 4]) (by simp [results, Tryz.results69, go_sem, g0]) rfl ⟨rfl, (((HE.out.setCell (Nat.le_refl _) _).setCell (Nat.le_refl _) _).setCell (Nat.le_refl _) _).setCell (Nat.le_refl _) _⟩
  | false =>
    rw [hr] at HR
    rw [if_neg (by simp)]
    clear hr
    go_enter Tryz.func69, Tryz.ntmps69
    go_wp2_with fail
    try rw [hW]
    clear hW
    refine (HO.out _).mono ?_
    rintro e w1 ⟨⟨rfl, hp⟩, hb1⟩
    go_wp2_with fail
    refine (HW.out _ _ hp).mono ?_
    rintro e w2 ⟨rfl, hw⟩
    obtain rfl : w1 = w2 := hw.symm
    clear hw hp
    go_wp2_with fail
    refine (HR.out _).mono ?_
    rintro e w3 ⟨rfl, hb3⟩
    have HD := hid (hb1.trans (hb3.mono hb1.size))
    clear hb1 hb3
    have HA3 := hid (HA.out w3 (HTW.out.on HD.out))
    go_wp2_with fail
    refine HA3.out.mono ?_
    rintro e w4 ⟨hcase, hb4⟩
    have HD4 := hid (HD.out.trans (hb4.mono HD.out.size))
    have HE : Hid (Below w.heap.size w w4) := hid (HB.out.trans (HD4.out.mono (Nat.le_of_lt hzW)))
    have g0 := cells4 (HCW.out w4 HD4.out)
    clear hb4
    rcases hcase with ⟨v, hv, rfl⟩ | ⟨v, ty, pt, hv, rfl⟩
    · have HV := hid (show cutA (numT n (Lib.atoiAll t)) = .tuple #[.agg #[.int .i64 3, .string ⟨#[]⟩, .int .i64 v, .int .i64 0], .int .i64 (n : Int), .int .i64 0] by rw [hv]; rfl)
      clear hv
      go_wp2
      exact bodyPost_ret (v := .tuple #[.agg #[.int .i64 3, .string ⟨#[]⟩, .int .i64 v, .int .i64 0], .int .i64 (n : Int), .int .i64 0]) (by simp [results, Tryz.results69, go_sem, g0]) rfl ⟨by rw [HV.out], (((HE.out.setCell (Nat.le_refl _) _).setCell (Nat.le_refl _) _).setCell (Nat.le_refl _) _).setCell (Nat.le_refl _) _⟩
    · have HV := hid (show cutA (numT n (Lib.atoiAll t)) = .tuple #[.agg #[.int .i64 0, .string ⟨#[]⟩, .int .i64 0, .int .i64 0], .int .i64 0, .int .i64 7] by rw [hv]; rfl)
      clear hv
      go_wp2
      exact bodyPost_ret (v := .tuple #[.agg #[.int .i64 0, .string ⟨#[]⟩, .int .i64 0, .int .i64 0], .int .i64 0, .int .i64 7]) (by simp [results, Tryz.results69, go_sem, g0]) rfl ⟨by rw [HV.out], (((HE.out.setCell (Nat.le_refl _) _).setCell (Nat.le_refl _) _).setCell (Nat.le_refl _) _).setCell (Nat.le_refl _) _⟩

end Go.Proofs.YtokfphfgcjbpkaaGreatDoor
