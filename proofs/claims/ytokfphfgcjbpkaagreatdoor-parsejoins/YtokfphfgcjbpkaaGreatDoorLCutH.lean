/- Contracts of lex.cutText, cutSign (written by tools/lcuth.py). -/
import Derived.Test.YtokfphfgcjbpkaaGreatDoorLCutG
namespace Go.Proofs.YtokfphfgcjbpkaaGreatDoor
open Go.RowKit Go.Shelf
set_option linter.unusedVariables false
set_option linter.unusedSimpArgs false
set_option maxRecDepth 20000

/-- A text cut at its first quote. -/
def cutQ : List UInt8 → List UInt8 × List UInt8 × Bool
  | [] => ([], [], false)
  | c :: r => if c = 39 then ([], r, true) else (c :: (cutQ r).1, (cutQ r).2)

theorem lib_cut (s : List UInt8) : Lib.cut s [39] = cutQ s := by
  unfold Lib.cut
  rw [Lib.index_one]
  induction s with
  | nil => simp [Lib.indexByte, cutQ]
  | cons c r ih =>
    have hge := Lib.indexByte_ge r 39
    unfold Lib.indexByte cutQ
    by_cases hc : c = 39
    · subst hc
      simp
    · have hc' : (c == 39) = false := by simpa using hc
      rw [hc', if_neg hc]
      simp only [Bool.false_eq_true, if_false]
      rw [← ih]
      by_cases hm : Lib.indexByte r 39 = -1
      · simp [hm]
      · have hm' : (Lib.indexByte r 39 == -1) = false := by simpa using hm
        rw [hm']
        simp only [Bool.false_eq_true, if_false]
        rw [if_pos (by omega), if_pos (by omega)]
        have e : (Lib.indexByte r 39 + 1).toNat = (Lib.indexByte r 39).toNat + 1 := by omega
        rw [e]
        simp

theorem cutQ_le (s : List UInt8) : (cutQ s).1.length + (cutQ s).2.1.length ≤ s.length := by
  induction s with
  | nil => simp [cutQ]
  | cons c r ih => unfold cutQ; split <;> simp <;> omega

/-- What has been gathered, and then the rest. -/
def finT (acc rest : List UInt8) (cl : Bool) : List UInt8 × List UInt8 × Bool :=
  if rest.head? = some 39 then (acc ++ 39 :: (txt (rest.drop 1)).1, (txt (rest.drop 1)).2) else (acc, rest, cl)

theorem finT_app (acc a rest : List UInt8) (cl : Bool) : finT (acc ++ a) rest cl = (acc ++ (finT a rest cl).1, (finT a rest cl).2) := by
  unfold finT
  split <;> simp

theorem txt_cutQ (s : List UInt8) : txt s = finT (cutQ s).1 (cutQ s).2.1 (cutQ s).2.2 := by
  fun_induction txt s with
  | case1 => simp [cutQ, finT]
  | case2 => simp [cutQ, finT]
  | case3 c h => simp [cutQ, finT, h]
  | case4 r ih => simp [cutQ, finT]
  | case5 d r hd => simp [cutQ, finT, hd]
  | case6 c d r hc ih =>
    have e : cutQ (c :: d :: r) = (c :: (cutQ (d :: r)).1, (cutQ (d :: r)).2) := by rw [cutQ, if_neg hc]
    rw [e]
    have := finT_app [c] (cutQ (d :: r)).1 (cutQ (d :: r)).2.1 (cutQ (d :: r)).2.2
    rw [← ih] at this
    exact this.symm

/-- A quote right behind another one: both stand for one. -/
theorem finT_step (acc r : List UInt8) (cl : Bool) : finT acc (39 :: r) cl = finT (acc ++ 39 :: (cutQ r).1) (cutQ r).2.1 (cutQ r).2.2 := by
  rw [show acc ++ 39 :: (cutQ r).1 = (acc ++ [39]) ++ (cutQ r).1 by simp, finT_app, ← txt_cutQ]
  simp [finT]

theorem finT_end {acc rest : List UInt8} {cl : Bool} (h : rest.head? ≠ some 39) : finT acc rest cl = (acc, rest, cl) := if_neg h

/-- A builder that holds these bytes. -/
def Bd (g : Nat) (acc : List UInt8) (w : World) : Prop := Lib.IsBuilder 108 5 g g (Lib.byteCells acc) w

theorem Bd.drewN {g : Nat} {acc : List UInt8} {w : World} (h : Bd g acc w) (n : Nat) : Bd g acc (w.drewN n) := h

theorem numT72 : renV.t 72 = 108 ∧ renV.t 5 = 5 := by decide

theorem bWrite_any (g : Nat) (acc t : List UInt8) (w : World) (h : Bd g acc w) (hl : acc.length + t.length ≤ 140737488355328) (hg : g ≤ w.heap.size) :
    Calls Tryz.prog 76 #[.pointer (some ⟨g, 0, none⟩), .string (str8 t)] w fun e w' => e = .returned (.tuple #[.int .i64 (t.length : Int), .nilIface]) ∧ Bd g (acc ++ t) w' ∧ Below g w w' := by
  have hB := Any.Builder_WriteString laysWs extraR g g (Lib.byteCells acc) (str8 t) w (by rw [numT72.1, numT72.2]; exact h) (by rw [Lib.byteCells_length, str8_size]; exact hl) hg
  rw [numL.2.2.2.2.2.2.1, numT72.1, numT72.2] at hB
  refine hB.mono fun e w' ⟨he, hb, hbel⟩ => ⟨he, .inr ?_, hbel⟩
  have e2 : Lib.byteCells acc ++ Lib.strCells (str8 t) = Lib.byteCells (acc ++ t) := by
    rw [Lib.strCells_eq]
    show _ ++ Lib.byteCells t = _
    simp [Lib.byteCells]
  rwa [e2] at hb

theorem bLen_any (g : Nat) (acc : List UInt8) (w : World) (h : Bd g acc w) : Calls Tryz.prog 112 #[.pointer (some ⟨g, 0, none⟩)] w fun e w' => e = .returned (.int .i64 (acc.length : Int)) ∧ w' = w := by
  have hB := Any.Builder_Len laysLe g g (Lib.byteCells acc) w (by rw [numT72.1, numT72.2]; exact h)
  rw [numL.2.2.2.2.2.2.2.2.1, Lib.byteCells_length] at hB
  exact hB

theorem bString_any (g : Nat) (acc : List UInt8) (w : World) (h : Bd g acc w) (hg : g ≤ w.heap.size) : Calls Tryz.prog 77 #[.pointer (some ⟨g, 0, none⟩)] w fun e w' => e = .returned (.string (str8 acc)) ∧ Below g w w' := by
  have hB := Any.Builder_String_any laysSt extraR g g acc w (by rw [numT72.1, numT72.2]; exact h) hg
  rw [numL.2.2.2.2.2.2.2.1] at hB
  exact hB

/-- strings.Cut at a quote. -/
theorem cutQ_any (s : List UInt8) (w : World) (hT : TabL w) (hs : s.length ≤ 2147483648) : Calls Tryz.prog 111 #[.string (str8 s), .string ⟨#[39]⟩] w fun e w' => e = .returned (.tuple #[.string (str8 (cutQ s).1), .string (str8 (cutQ s).2.1), .bool (cutQ s).2.2]) ∧ ∃ n, w' = w.drewN n := by
  obtain ⟨m, hm⟩ := hT.tv.max
  have := Any.strings_Cut laysCu (str8 s) ⟨#[39]⟩ m w (by rw [str8_size]; omega) (by rw [numR.2.2.1]; exact hm)
  rw [numL.2.2.1] at this
  have e : Lib.cut (str8 s).data.toList [39] = cutQ s := lib_cut s
  have e2 : Lib.cut (str8 s).data.toList (⟨#[39]⟩ : ByteArray).data.toList = cutQ s := e
  rw [e2] at this
  exact this

theorem prefixQ (rest : List UInt8) : [39].isPrefixOf rest = decide (rest.head? = some 39) := by
  cases rest with
  | nil => simp [List.isPrefixOf]
  | cons c r =>
    simp only [List.isPrefixOf, List.head?_cons, Option.some.injEq, Bool.and_true]
    rw [Bool.eq_iff_iff, beq_iff_eq, decide_eq_true_eq]
    exact eq_comm

set_option maxHeartbeats 2000000 in
theorem cutText_any (s : List UInt8) (w : World) (hT : TabL w) (hs : s.length ≤ 2147483648) (h1 : 1 ≤ s.length) : Calls Tryz.prog 70 #[.string (str8 s)] w fun e w' => e = .returned (cutA (cutTextT s)) ∧ Below w.heap.size w w' := by
  have hsz : (str8 s).size = s.length := rfl
  have hs1 : ∀ w, (Instr.slice 9 (.string (str8 s)) (some (.int .i64 1)) none none).run Tryz.prog w = .ok (.string (str8 (s.drop 1))) w := run_cutfrom s 1 h1
  have hdl : (s.drop 1).length = s.length - 1 := by simp
  have hq := cutQ_le (s.drop 1)
  have hd : cutTextT s = textT s.length (txt (s.drop 1)) := rfl
  rw [hd, txt_cutQ]
  clear hd
  obtain ⟨W0, hW0, hbW0, hzW0, hcW0⟩ := box4 w (.int .i64 0) (.string ⟨#[]⟩) (.int .i64 0) (.int .i64 0) 71
  obtain ⟨W, hW⟩ : ∃ W, W0.alloc (.cells #[.pointer none, .slice none 0 0] 108) = W := ⟨_, rfl⟩
  have hbd : Bd W0.heap.size [] W := by rw [← hW]; exact Lib.fresh_isBuilder _ _ W0
  have hbW1 : Below W0.heap.size W0 W := by rw [← hW]; exact (Below.refl _ _).alloc (Nat.le_refl _) _
  have hzW1 : W0.heap.size < W.heap.size := by rw [← hW]; simp
  have HT0 := hid (hT.on hbW0)
  have HTW := hid (HT0.out.on hbW1)
  have HC0 := hid (cutQ_any (s.drop 1) W HTW.out (by omega))
  have HCW := hid hcW0
  have HB := hid hbW0
  have HB1 := hid hbW1
  have HBD := hid hbd
  clear hcW0 hbW0 hbW1 hbd hT
  obtain ⟨⟨a0, r0, c0⟩, hx0⟩ : ∃ x, cutQ (s.drop 1) = x := ⟨_, rfl⟩
  rw [hx0] at HC0 hq ⊢
  dsimp only at HC0 hq ⊢
  clear hx0
  generalize hs' : s.drop 1 = s1 at hs1 HC0 hdl hq
  clear hs'
  obtain ⟨X, hX⟩ : ∃ X, finT a0 r0 c0 = X := ⟨_, rfl⟩
  rw [hX]
  go_enter Tryz.func70, Tryz.ntmps70
  go_wp2_with fail
  try rw [hW0]
  try rw [hW]
  clear hW0 hW
  refine HC0.out.mono ?_
  rintro e w1 ⟨rfl, n1, hn1⟩
  have HW1 : Hid (Below W.heap.size W w1) := hid (by rw [hn1]; exact below_drewN (Below.refl _ _) n1)
  have HBD1 : Hid (Bd W0.heap.size [] w1) := hid (by rw [hn1]; exact HBD.out)
  clear hn1 HC0
  have HWR := hid (bWrite_any W0.heap.size [] a0 w1 HBD1.out (by simp; omega) (by have := HW1.out.size; omega))
  go_wp2_with fail
  refine HWR.out.mono ?_
  rintro e w2 ⟨rfl, hbd2, hb2⟩
  have hbel2 : Below W0.heap.size W0 w2 := HB1.out.trans ((HW1.out.mono (Nat.le_of_lt hzW1)).trans hb2)
  rw [List.nil_append] at hbd2
  have HX := hid hX
  clear hb2 HWR HBD1 HW1 hX
  go_wp2_with fail
  go_loopw [6, 7, 8] (fun _ v7 v8 wr => ∃ (acc rest : List UInt8) (cl : Bool), v7 = .string (str8 rest) ∧ v8 = .bool cl ∧ acc.length + rest.length ≤ s.length ∧ Hid (Bd W0.heap.size acc wr) ∧ Hid (Below W0.heap.size W0 wr) ∧ Hid (finT acc rest cl = X)) (fun _ v7 _ _ => match v7 with | .string b => b.size | _ => 0)
  case atStart => exact ⟨a0, r0, c0, rfl, rfl, by omega, hid hbd2, hid hbel2, HX⟩
  case round =>
    obtain ⟨acc, rest, cl, rfl, rfl, hlen, HBDr, HBr, HXr⟩ := hrel
    have hszr := HBr.out.size
    have HP : Hid (∀ w, Calls Tryz.prog 63 #[.string (str8 rest), .string ⟨#[39]⟩] w fun e w' => e = .returned (.bool ([39].isPrefixOf rest)) ∧ w' = w) := hid (fun w => hasPrefix_any rest [39] w)
    rw [prefixQ] at HP
    by_cases hh : rest.head? = some 39
    · obtain ⟨r, rfl⟩ : ∃ r, rest = 39 :: r := by
        cases rest with
        | nil => simp at hh
        | cons c r => simp at hh; exact ⟨r, by rw [hh]⟩
      rw [decide_eq_true hh] at HP
      have hss : ∀ w, (Instr.slice 9 (.string (str8 (39 :: r))) (some (.int .i64 1)) none none).run Tryz.prog w = .ok (.string (str8 r)) w := run_cutfrom (39 :: r) 1 (by simp)
      have hstep := finT_step acc r cl
      have hqr := cutQ_le r
      rw [List.length_cons] at hlen
      have HC := hid (cutQ_any r wr (HT0.out.on HBr.out) (by omega))
      obtain ⟨⟨a1, r1, c1⟩, hx1⟩ : ∃ x, cutQ r = x := ⟨_, rfl⟩
      rw [hx1] at HC hqr hstep
      dsimp only at HC hqr hstep
      have HS := hid (hstep.symm.trans HXr.out)
      clear hx1 hstep hh HXr
      have hm : (str8 (39 :: r)).size = r.length + 1 := rfl
      have HM := hid hm
      clear hm
      go_wp2_with fail
      refine (HP.out _).mono ?_
      rintro e w3 ⟨rfl, hw3⟩
      obtain rfl : wr = w3 := hw3.symm
      clear hw3
      go_wp2_with fail
      refine HC.out.mono ?_
      rintro e w4 ⟨rfl, n4, hn4⟩
      have HB4 : Hid (Below W0.heap.size W0 w4) := hid (by rw [hn4]; exact below_drewN HBr.out n4)
      have HBD4 : Hid (Bd W0.heap.size acc w4) := hid (by rw [hn4]; exact HBDr.out)
      clear hn4 HC HP
      have HW4 := hid (show Calls Tryz.prog 76 #[.pointer (some ⟨W0.heap.size, 0, none⟩), .string ⟨#[39]⟩] w4 _ from bWrite_any W0.heap.size acc [39] w4 HBD4.out (by simp; omega) HB4.out.size)
      go_wp2_with fail
      refine HW4.out.mono ?_
      rintro e w5 ⟨rfl, hbd5, hb5⟩
      have HB5 : Hid (Below W0.heap.size W0 w5) := hid (HB4.out.trans hb5)
      have HW5 := hid (bWrite_any W0.heap.size (acc ++ [39]) a1 w5 hbd5 (by simp; omega) HB5.out.size)
      clear HW4 hbd5 hb5 HBD4 HB4
      go_wp2_with fail
      refine HW5.out.mono ?_
      rintro e w6 ⟨rfl, hbd6, hb6⟩
      have HB6 : Hid (Below W0.heap.size W0 w6) := hid (HB5.out.trans hb6)
      have HBD6 := hid hbd6
      clear HW5 hbd6 hb6
      go_wp2
      go_roundw
      case rel => exact ⟨acc ++ [39] ++ a1, r1, c1, rfl, rfl, by simp; omega, HBD6, HB6, hid (by rw [← HS.out]; simp)⟩
      case measure =>
        show (str8 r1).size < (str8 (39 :: r)).size
        rw [HM.out, str8_size]
        omega
    · rw [decide_eq_false hh] at HP
      have HXe : Hid (X = (acc, rest, cl)) := hid (by rw [← HXr.out, finT_end hh])
      have HL := hid (bLen_any W0.heap.size acc wr HBDr.out)
      have HSt := hid (bString_any W0.heap.size acc wr HBDr.out HBr.out.size)
      have g0 := cells4 (HCW.out wr HBr.out)
      have HE : Hid (Below w.heap.size w wr) := hid (HB.out.trans (HBr.out.mono (Nat.le_of_lt hzW0)))
      clear HXr hh
      rw [HXe.out]
      have ht : textT s.length (acc, rest, cl) = if 40 < acc.length then (2, zTk, 0) else if cl = false then (3, zTk, 0) else (0, ⟨4, acc, 0, 0⟩, s.length - rest.length) := rfl
      have HTX := hid ht
      clear ht
      go_wp2_with fail
      refine (HP.out _).mono ?_
      rintro e w3 ⟨rfl, hw3⟩
      obtain rfl : wr = w3 := hw3.symm
      clear hw3
      go_wp2_with fail
      refine HL.out.mono ?_
      rintro e w4 ⟨rfl, hw4⟩
      obtain rfl : wr = w4 := hw4.symm
      clear hw4 HL
      by_cases h40 : 40 < acc.length
      · have HTa : Hid (cutA (textT s.length (acc, rest, cl)) = .tuple #[.agg #[.int .i64 0, .string ⟨#[]⟩, .int .i64 0, .int .i64 0], .int .i64 0, .int .i64 2]) := hid (by rw [HTX.out, if_pos h40]; rfl)
        go_wp2
        exact bodyPost_ret (v := .tuple #[.agg #[.int .i64 0, .string ⟨#[]⟩, .int .i64 0, .int .i64 0], .int .i64 0, .int .i64 2]) (by simp [results, Tryz.results70, go_sem, g0]) rfl ⟨by rw [HXe.out, HTa.out], (((HE.out.setCell (Nat.le_refl _) _).setCell (Nat.le_refl _) _).setCell (Nat.le_refl _) _).setCell (Nat.le_refl _) _⟩
      · cases cl with
        | false =>
          have HTa : Hid (cutA (textT s.length (acc, rest, false)) = .tuple #[.agg #[.int .i64 0, .string ⟨#[]⟩, .int .i64 0, .int .i64 0], .int .i64 0, .int .i64 3]) := hid (by rw [HTX.out, if_neg h40]; rfl)
          go_wp2
          exact bodyPost_ret (v := .tuple #[.agg #[.int .i64 0, .string ⟨#[]⟩, .int .i64 0, .int .i64 0], .int .i64 0, .int .i64 3]) (by simp [results, Tryz.results70, go_sem, g0]) rfl ⟨by rw [HXe.out, HTa.out], (((HE.out.setCell (Nat.le_refl _) _).setCell (Nat.le_refl _) _).setCell (Nat.le_refl _) _).setCell (Nat.le_refl _) _⟩
        | true =>
          have HTa : Hid (cutA (textT s.length (acc, rest, true)) = .tuple #[.agg #[.int .i64 4, .string (str8 acc), .int .i64 0, .int .i64 0], .int .i64 ((s.length : Int) - (rest.length : Int)), .int .i64 0]) := hid (by
            rw [HTX.out, if_neg h40, if_neg (by simp)]
            show Value.tuple #[_, .int .i64 ((s.length - rest.length : Nat) : Int), _] = _
            rw [show ((s.length - rest.length : Nat) : Int) = (s.length : Int) - (rest.length : Int) by omega]
            rfl)
          have HWr : Hid (wrap64 ((s.length : Int) - ((str8 rest).size : Int)) = (s.length : Int) - (rest.length : Int)) := hid (by
            rw [str8_size]
            unfold wrap64; omega)
          go_wp2_with fail
          refine HSt.out.mono ?_
          rintro e w5 ⟨rfl, hb5⟩
          have HB5 : Hid (Below W0.heap.size W0 w5) := hid (HBr.out.trans hb5)
          have g1 := cells4 (HCW.out w5 HB5.out)
          have HE5 : Hid (Below w.heap.size w w5) := hid (HB.out.trans (HB5.out.mono (Nat.le_of_lt hzW0)))
          clear hb5 HSt g0 HE
          go_wp2
          exact bodyPost_ret (v := .tuple #[.agg #[.int .i64 4, .string (str8 acc), .int .i64 0, .int .i64 0], .int .i64 ((s.length : Int) - (rest.length : Int)), .int .i64 0]) (by simp [results, Tryz.results70, go_sem, g1, HWr.out]) rfl ⟨by rw [HXe.out, HTa.out], (((HE5.out.setCell (Nat.le_refl _) _).setCell (Nat.le_refl _) _).setCell (Nat.le_refl _) _).setCell (Nat.le_refl _) _⟩

end Go.Proofs.YtokfphfgcjbpkaaGreatDoor
