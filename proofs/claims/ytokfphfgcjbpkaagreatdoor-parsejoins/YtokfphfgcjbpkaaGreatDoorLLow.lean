/- Contracts of lex.oneOf, rowSize, runsOn, passBlanks and their closures. -/
import Derived.Test.YtokfphfgcjbpkaaGreatDoorVLit
import Derived.Test.YtokfphfgcjbpkaaGreatDoorLPure
import Derived.Shelf.Pu.Clone
import Derived.Deep.QuietTactic
import Derived.BigQuiet
namespace Go.Proofs.YtokfphfgcjbpkaaGreatDoor
open Go.RowKit Go.Shelf
set_option linter.unusedVariables false
set_option linter.unusedSimpArgs false
set_option maxRecDepth 20000

/-- A byte of a text. -/
theorem run_ix (s : List UInt8) (j : Nat) (c : UInt8) (h : s[j]? = some c) (w : World) : (Instr.index 9 (.string (str8 s)) (.int .i64 (j : Int))).run Tryz.prog w = .ok (.int .u8 (c.toNat : Int)) w := by
  obtain ⟨hj, e⟩ := List.getElem?_eq_some_iff.1 h
  have hsz : (str8 s).size = s.length := rfl
  rw [run_index_string w 9 (str8 s) .i64 _ Tryz.underlying9, dif_pos ⟨by omega, by rw [hsz]; omega⟩]
  rw [← e]
  rfl

/-- A text from a place on. -/
theorem run_cutfrom (s : List UInt8) (j : Nat) (h : j ≤ s.length) (w : World) : (Instr.slice 9 (.string (str8 s)) (some (.int .i64 (j : Int))) none none).run Tryz.prog w = .ok (.string (str8 (s.drop j))) w := by
  have hsz : (str8 s).size = s.length := rfl
  rw [run_slice_string_from_if w 9 (str8 s) .i64 _ Tryz.underlying9, if_pos ⟨by omega, by rw [hsz]; omega⟩]
  refine congrArg (fun x => Result.ok (Value.string x) w) ?_
  apply ByteArray.ext
  apply Array.ext'
  rw [show ((j : Int)).toNat = j by omega, Lib.extract_data]
  show (s.drop j).take (s.length - j) = s.drop j
  exact List.take_of_length_le (by simp)

/-- A text up to a place. -/
theorem run_cutto (s : List UInt8) (j : Nat) (h : j ≤ s.length) (w : World) : (Instr.slice 9 (.string (str8 s)) none (some (.int .i64 (j : Int))) none).run Tryz.prog w = .ok (.string (str8 (s.take j))) w := by
  have hsz : (str8 s).size = s.length := rfl
  rw [run_slice_string_to_if w 9 (str8 s) .i64 _ Tryz.underlying9, if_pos ⟨by omega, by rw [hsz]; omega⟩]
  refine congrArg (fun x => Result.ok (Value.string x) w) ?_
  apply ByteArray.ext
  apply Array.ext'
  rw [show ((j : Int)).toNat = j by omega, Lib.extract_data]
  show (s.drop 0).take (j - 0) = s.take j
  simp

/-- What the walks ask of the library's package variables. -/
structure TabL (w : World) : Prop where
  tv : TabV w
  lt : 9 < w.heap.size
  spc : Lib.TabIs Tryz.prog w "strings.asciiSpace" .u8 Lib.asciiSpaceTab
  rng : ∃ ev, w.cell? ⟨4, 0, none⟩ = some ev ∧ (ev = .nilIface ∨ ∃ te pe, ev = .iface te pe)

theorem TabL.below {w w' : World} {B : Nat} (h : TabL w) (hb : Below B w w') (hB : 9 < B) : TabL w' := by
  refine ⟨h.tv.below hb (by omega), Nat.lt_of_lt_of_le h.lt hb.size, ?_, ?_⟩
  · have hp := h.spc
    have hg : Tryz.prog.globalNamed "strings.asciiSpace" = some 0 := by kernel_rfl
    unfold Lib.TabIs World.var? at hp ⊢
    rw [hg] at hp ⊢
    have e : w'.heap[0]? = w.heap[0]? := hb.block _ (by omega)
    simp only [Option.bind_some] at hp ⊢
    rw [e]
    exact hp
  · obtain ⟨ev, h1, h2⟩ := h.rng
    exact ⟨ev, by rw [hb.cell (p := ⟨4, 0, none⟩) (by show 4 < B; omega)]; exact h1, h2⟩

theorem TabL.on {w w' : World} (h : TabL w) (hb : Below w.heap.size w w') : TabL w' := h.below hb h.lt

/-- WHAT A FUNCTION VALUE TELLS OF A BYTE, in every later world. -/
def PredS (g : Nat) (lb : Array Value) (p : UInt8 → Bool) (w : World) : Prop :=
  ∀ (W : World) (c : UInt8), Below w.heap.size w W → Calls Tryz.prog g (#[.int .u8 (c.toNat : Int)] ++ lb) W fun e w' => e = .returned (.bool (p c)) ∧ w' = W

theorem PredS.on {g : Nat} {lb : Array Value} {p : UInt8 → Bool} {w w' : World} (h : PredS g lb p w) (hb : Below w.heap.size w w') : PredS g lb p w' :=
  fun W c hW => h W c (hb.trans (hW.mono hb.size))

theorem indexByte_any (l : List UInt8) (c : UInt8) (w : World) : Calls Tryz.prog 105 #[.string (str8 l), .int .u8 (c.toNat : Int)] w fun e w' => e = .returned (.int .i64 (Lib.indexByte l c)) ∧ w' = w := by
  have := Any.strings_IndexByte laysIx (str8 l) (c.toNat : Int) w
  rw [numL.1] at this
  have e1 : (c.toNat : Int).toNat.toUInt8 = c := by simp
  rw [e1] at this
  exact this

theorem hasPrefix_any (s p : List UInt8) (w : World) : Calls Tryz.prog 63 #[.string (str8 s), .string (str8 p)] w fun e w' => e = .returned (.bool (p.isPrefixOf s)) ∧ w' = w := by
  have := Any.strings_HasPrefix laysHp (str8 s) (str8 p) w
  rw [numL.2.1] at this
  exact this

set_option maxHeartbeats 1000000 in
theorem oneOf1_at (w : World) (B : Nat) (l : List UInt8) (hB : B < w.heap.size) (hc : w.cell? ⟨B, 0, none⟩ = some (.string (str8 l))) : PredS 104 #[.pointer (some ⟨B, 0, none⟩)] (inS l) w := fun W c hb => by
  have hc' : W.cell? ⟨B, 0, none⟩ = some (.string (str8 l)) := (hb.cell (p := ⟨B, 0, none⟩) hB).trans hc
  have hix := index_inS l c
  have hge := Lib.indexByte_ge l c
  have HI := hid (indexByte_any l c W)
  obtain ⟨j, hj⟩ : ∃ j, Lib.indexByte l c = j := ⟨_, rfl⟩
  rw [hj] at hix hge HI
  rw [← hix]
  clear hix hj hc
  show Calls Tryz.prog 104 #[.int .u8 (c.toNat : Int), .pointer (some ⟨B, 0, none⟩)] W _
  go_enter Tryz.func104, Tryz.ntmps104
  go_wp2_with (go_at_call 105; refine HI.out.mono ?_; rintro e w1 ⟨rfl, rfl⟩)
  go_ret
  exact ⟨by simp, rfl⟩

set_option maxHeartbeats 1000000 in
theorem oneOf_any (l : ByteArray) (w : World) : Calls Tryz.prog 62 #[.string l] w fun e w' => e = .returned (.func (.func 104) #[] #[.pointer (some ⟨w.heap.size, 0, none⟩)]) ∧ w' = w.alloc (.cells #[.string l] 9) := by
  go_enter Tryz.func62, Tryz.ntmps62
  go_wp2
  go_ret
  exact ⟨rfl, rfl⟩

/-- oneOf, with what its answer tells. -/
theorem oneOf_tells (l : List UInt8) (w : World) : Calls Tryz.prog 62 #[.string (str8 l)] w fun e w' => (e = .returned (.func (.func 104) #[] #[.pointer (some ⟨w.heap.size, 0, none⟩)]) ∧ PredS 104 #[.pointer (some ⟨w.heap.size, 0, none⟩)] (inS l) w') ∧ Below w.heap.size w w' := by
  refine (oneOf_any _ w).mono ?_
  rintro e w' ⟨rfl, rfl⟩
  exact ⟨⟨rfl, oneOf1_at _ _ _ (by simp) (by simp)⟩, (Below.refl _ _).alloc (Nat.le_refl _) _⟩

set_option maxHeartbeats 1000000 in
theorem rowSize_any (s : List UInt8) (g : Nat) (lb : Array Value) (p : UInt8 → Bool) (w : World) (hs : s.length ≤ 140737488351232) (eg : ∀ args w, (callFunc g args).run Tryz.prog w = .ok (.enter g args) w) (hp : PredS g lb p w) :
    Calls Tryz.prog 64 #[.string (str8 s), .func (.func g) #[] lb] w fun e w' => e = .returned (.int .i64 (row p s : Nat)) ∧ w' = w := by
  have hsz : (str8 s).size = s.length := rfl
  have HP := hid (fun c => hp w c (Below.refl _ _))
  clear hp
  go_enter Tryz.func64, Tryz.ntmps64
  go_wp2_with fail
  go_loopw [5, 8] (fun _ i wr => ∃ k : Nat, k ≤ s.length ∧ i = .int .i64 k ∧ wr = w ∧ Hid (row p s = k + row p (s.drop k))) (fun _ i _ => s.length - (intOf i).toNat)
  case atStart => exact ⟨0, Nat.zero_le _, rfl, rfl, hid (by simp)⟩
  case round =>
    obtain ⟨k, hk, rfl, rfl, HR⟩ := hrel
    by_cases hlt : k < s.length
    · obtain ⟨c, hc⟩ : ∃ c, s[k]? = some c := ⟨_, List.getElem?_eq_getElem hlt⟩
      have hix := run_ix s k c hc
      have hd : s.drop k = c :: s.drop (k + 1) := by
        obtain ⟨h1, h2⟩ := List.getElem?_eq_some_iff.1 hc
        rw [List.drop_eq_getElem_cons h1, h2]
      have hlt' : ((k : Int) < ((str8 s).size : Int)) := by rw [hsz]; omega
      have hcall := HP.out c
      cases hpc : p c with
      | true =>
        rw [hpc] at hcall
        have HR2 : Hid (row p s = (k + 1) + row p (s.drop (k + 1))) := hid (by rw [HR.out, hd, row_cons_pos hpc]; omega)
        clear HR hd hc hpc
        go_wp2_with (go_at_fn g; refine hcall.mono ?_; rintro e w' ⟨rfl, rfl⟩)
        go_roundw
        case rel => exact ⟨k + 1, by omega, by go_num, by first | rfl | trivial, HR2⟩
        case measure => simp [intOf]; omega
      | false =>
        rw [hpc] at hcall
        have HR2 : Hid (row p s = k) := hid (by rw [HR.out, hd, row_cons_neg hpc]; omega)
        clear HR hd hc hpc
        go_wp2_with (go_at_fn g; refine hcall.mono ?_; rintro e w' ⟨rfl, rfl⟩)
        go_ret
        exact ⟨by rw [HR2.out]; rfl, rfl⟩
    · have hlt' : ¬ ((k : Int) < ((str8 s).size : Int)) := by rw [hsz]; omega
      have HR2 : Hid (row p s = s.length) := hid (by rw [HR.out, List.drop_of_length_le (by omega), row_nil]; omega)
      clear HR
      go_wp2
      go_ret
      exact ⟨by rw [HR2.out]; rfl, rfl⟩

/-- rowSize of what oneOf tells. -/
theorem rowOne_any (s l : List UInt8) (B : Nat) (w : World) (hs : s.length ≤ 140737488351232) (hp : PredS 104 #[.pointer (some ⟨B, 0, none⟩)] (inS l) w) :
    Calls Tryz.prog 64 #[.string (str8 s), .func (.func 104) #[] #[.pointer (some ⟨B, 0, none⟩)]] w fun e w' => e = .returned (.int .i64 (row (inS l) s : Nat)) ∧ w' = w :=
  rowSize_any s _ _ _ w hs (enters_of Tryz.func104 (by kernel_rfl) rfl) hp

set_option maxHeartbeats 1000000 in
theorem runsOn_any (s : List UInt8) (w : World) (hs : s.length ≤ 140737488351232) : Calls Tryz.prog 107 #[.string (str8 s)] w fun e w' => e = .returned (.bool (runsB s)) ∧ Below w.heap.size w w' := by
  have HO := hid (oneOf_tells gluedB w)
  have hd : runsB s = decide (0 < row (inS gluedB) s) := rfl
  have HR := hid (fun B w1 hp => rowOne_any s gluedB B w1 hs hp)
  rw [hd]
  generalize row (inS gluedB) s = n at HR ⊢
  clear hd
  go_enter Tryz.func107, Tryz.ntmps107
  go_wp2_with fail
  refine HO.out.mono ?_
  rintro e w1 ⟨⟨rfl, hp⟩, hb⟩
  go_wp2_with fail
  refine (HR.out _ _ hp).mono ?_
  rintro e w2 ⟨rfl, hw⟩
  obtain rfl : w1 = w2 := hw.symm
  go_wp2
  go_ret
  exact ⟨by simp, hb⟩

set_option maxHeartbeats 1000000 in
theorem pass1_any (w : World) : PredS 65 #[] (fun c => c != 10) w := fun W c _ => by
  have e : (c != 10) = ((c.toNat : Int) != 10) := by
    rw [Bool.eq_iff_iff, bne_iff_ne, bne_iff_ne]
    refine not_congr ⟨fun h => by rw [h]; rfl, fun h => UInt8.toNat_inj.1 (by show c.toNat = 10; omega)⟩
  show Calls Tryz.prog 65 #[.int .u8 (c.toNat : Int)] W _
  dsimp only
  rw [e]
  go_enter Tryz.func65, Tryz.ntmps65
  go_wp2
  go_ret
  exact ⟨rfl, rfl⟩

theorem rowPass_any (s : List UInt8) (w : World) (hs : s.length ≤ 140737488351232) :
    Calls Tryz.prog 64 #[.string (str8 s), .func (.func 65) #[] #[]] w fun e w' => e = .returned (.int .i64 (row (fun c => c != 10) s : Nat)) ∧ w' = w :=
  rowSize_any s _ _ _ w hs (enters_of Tryz.func65 (by kernel_rfl) rfl) (pass1_any w)

theorem skip_cases (c : UInt8) (r : List UInt8) : (inS blksB c = true ∧ skip false (c :: r) = 1 + skip false r) ∨ (inS blksB c = false ∧ [45, 45].isPrefixOf (c :: r) = true ∧ 1 ≤ row (fun c => c != 10) (c :: r) ∧ skip false (c :: r) = row (fun c => c != 10) (c :: r) + skip false ((c :: r).drop (row (fun c => c != 10) (c :: r)))) ∨ (inS blksB c = false ∧ [45, 45].isPrefixOf (c :: r) = false ∧ skip false (c :: r) = 0) := by
  by_cases hb : inS blksB c = true
  · exact .inl ⟨hb, by rw [skip, if_pos hb]⟩
  · have hb' : inS blksB c = false := by simpa using hb
    by_cases hr : c = 45 ∧ r.head? = some 45
    · refine .inr (.inl ⟨hb', ?_, ?_, ?_⟩)
      · obtain ⟨rfl, h⟩ := hr
        cases r with
        | nil => simp at h
        | cons d r => simp at h; simp [h, List.isPrefixOf]
      · exact row_first (by rw [hr.1]; decide)
      · rw [← skip_remark]
        show (if inS blksB c = true then 1 + skip false r else if c = 45 ∧ r.head? = some 45 then 1 + skip true r else 0) = 1 + skip (c != 10) r
        rw [if_neg hb, if_pos hr, hr.1]
        rfl
    · refine .inr (.inr ⟨hb', ?_, by rw [skip, if_neg hb, if_neg hr]⟩)
      cases r with
      | nil => simp [List.isPrefixOf]
      | cons d r =>
        simp only [List.isPrefixOf, Bool.and_true]
        rw [Bool.eq_false_iff]
        intro h
        simp at h
        exact hr ⟨h.1.symm, by simp [h.2.symm]⟩

set_option maxHeartbeats 1000000 in
theorem passBlanks_any (s : List UInt8) (a : Nat) (w : World) (hs : s.length ≤ 140737488351232) (ha : a ≤ s.length) :
    Calls Tryz.prog 29 #[.string (str8 s), .int .i64 (a : Int)] w fun e w' => e = .returned (.int .i64 ((a + skip false (s.drop a) : Nat) : Int)) ∧ Below w.heap.size w w' := by
  have hsz : (str8 s).size = s.length := rfl
  go_enter Tryz.func29, Tryz.ntmps29
  go_wp2_with fail
  go_step3
  go_wp2_with fail
  go_step3
  go_wp2_with fail
  go_loopw [1] (fun i wr => ∃ k : Nat, k ≤ s.length ∧ i = .int .i64 k ∧ Below w.heap.size w wr ∧ Hid (a + skip false (s.drop a) = k + skip false (s.drop k))) (fun i _ => s.length - (intOf i).toNat)
  case atStart => exact ⟨a, ha, rfl, Below.refl _ _, hid rfl⟩
  case round =>
    obtain ⟨k, hk, rfl, hbel, HR⟩ := hrel
    have hszr := hbel.size
    by_cases hlt : k < s.length
    · obtain ⟨c, hc⟩ : ∃ c, s[k]? = some c := ⟨_, List.getElem?_eq_getElem hlt⟩
      have hix := run_ix s k c hc
      have hsl := run_cutfrom s k hk
      have hd : s.drop k = c :: s.drop (k + 1) := by
        obtain ⟨h1, h2⟩ := List.getElem?_eq_some_iff.1 hc
        rw [List.drop_eq_getElem_cons h1, h2]
      have hlt' : ((k : Int) < ((str8 s).size : Int)) := by rw [hsz]; omega
      have hsk := skip_cases c (s.drop (k + 1))
      rw [← hd] at hsk
      have hrl := row_le (fun c => c != 10) (s.drop k)
      rw [List.length_drop] at hrl
      have HO : Hid (∀ w, Calls Tryz.prog 62 #[.string ⟨#[9, 10, 13, 32]⟩] w fun e w' => (e = .returned (.func (.func 104) #[] #[.pointer (some ⟨w.heap.size, 0, none⟩)]) ∧ PredS 104 #[.pointer (some ⟨w.heap.size, 0, none⟩)] (inS blksB) w') ∧ Below w.heap.size w w') := hid (fun w => oneOf_tells blksB w)
      have HP : Hid (∀ w, Calls Tryz.prog 63 #[.string (str8 (s.drop k)), .string ⟨#[45, 45]⟩] w fun e w' => e = .returned (.bool ([45, 45].isPrefixOf (s.drop k))) ∧ w' = w) := hid (fun w => hasPrefix_any (s.drop k) [45, 45] w)
      have HW := hid (fun w => rowPass_any (s.drop k) w (by rw [List.length_drop]; omega))
      have HD : Hid (Below w.heap.size w wr.drew) := hid (below_drewN hbel 1)
      clear hbel
      rcases hsk with ⟨hb, hsk⟩ | ⟨hb, hpx, hr1, hsk⟩ | ⟨hb, hpx, hsk⟩
      · have HR2 : Hid (a + skip false (s.drop a) = (k + 1) + skip false (s.drop (k + 1))) := hid (by rw [HR.out, hsk]; omega)
        clear HR hd hc hsk hrl HP HW
        have HB := hid hb
        clear hb
        go_wp2_with fail
        go_region_held3 (fun _ => True) (first | trivial) (first
          | (go_at_call 62; refine (HO.out _).mono ?_; rintro e w1 ⟨⟨rfl, hp⟩, hb1⟩
             have HP1 := hid (hp w1 c (Below.refl _ _))
             rw [HB.out] at HP1
             have HD1 : Hid (Below w.heap.size w w1) := hid (HD.out.trans (hb1.mono HD.out.size))
             clear hp hb1)
          | (go_at_call 104; refine HP1.out.mono ?_; rintro e w2 ⟨rfl, hw2⟩; rw [hw2]))
        all_goals go_wp2
        all_goals exact ⟨⟨k + 1, by omega, by go_num, HD1.out, HR2⟩, by simp [intOf]; omega⟩
      · have HR2 : Hid (a + skip false (s.drop a) = (k + row (fun c => c != 10) (s.drop k)) + skip false (s.drop (k + row (fun c => c != 10) (s.drop k)))) := hid (by rw [HR.out, hsk, List.drop_drop]; omega)
        rw [hpx] at HP
        generalize row (fun c => c != 10) (s.drop k) = m at HR2 HW hr1 hrl
        clear HR hd hc hsk hpx
        have HB := hid hb
        clear hb
        go_wp2_with fail
        go_region_held3 (fun _ => True) (first | trivial) (first
          | (go_at_call 62; refine (HO.out _).mono ?_; rintro e w1 ⟨⟨rfl, hp⟩, hb1⟩
             have HP1 := hid (hp w1 c (Below.refl _ _))
             rw [HB.out] at HP1
             have HD1 : Hid (Below w.heap.size w w1) := hid (HD.out.trans (hb1.mono HD.out.size))
             clear hp hb1)
          | (go_at_call 104; refine HP1.out.mono ?_; rintro e w2 ⟨rfl, hw2⟩; rw [hw2]))
        all_goals go_wp2_with (first
          | (go_at_call 63; refine (HP.out _).mono ?_; rintro e w3 ⟨rfl, hw3⟩; rw [hw3])
          | (go_at_call 64; refine (HW.out _).mono ?_; rintro e w4 ⟨rfl, hw4⟩; rw [hw4]))
        all_goals exact ⟨⟨k + m, by omega, by go_num, HD1.out, HR2⟩, by simp [intOf]; omega⟩
      · have HR2 : Hid (a + skip false (s.drop a) = k) := hid (by rw [HR.out, hsk]; omega)
        rw [hpx] at HP
        clear HR hd hc hsk hpx hrl HW
        have HB := hid hb
        clear hb
        go_wp2_with fail
        go_region_held3 (fun _ => True) (first | trivial) (first
          | (go_at_call 62; refine (HO.out _).mono ?_; rintro e w1 ⟨⟨rfl, hp⟩, hb1⟩
             have HP1 := hid (hp w1 c (Below.refl _ _))
             rw [HB.out] at HP1
             have HD1 : Hid (Below w.heap.size w w1) := hid (HD.out.trans (hb1.mono HD.out.size))
             clear hp hb1)
          | (go_at_call 104; refine HP1.out.mono ?_; rintro e w2 ⟨rfl, hw2⟩; rw [hw2]))
        all_goals go_wp2_with (go_at_call 63; refine (HP.out _).mono ?_; rintro e w3 ⟨rfl, hw3⟩; rw [hw3])
        all_goals rw [Exit.noGoto_ret]
        all_goals go_ret
        all_goals exact ⟨by rw [HR2.out]; rfl, HD1.out⟩
    · have hlt' : ¬ ((k : Int) < ((str8 s).size : Int)) := by rw [hsz]; omega
      have HR2 : Hid (a + skip false (s.drop a) = k) := hid (by rw [HR.out, List.drop_of_length_le (by omega)]; rfl)
      clear HR
      go_wp2
      go_ret
      exact ⟨by rw [HR2.out]; rfl, hbel⟩

end Go.Proofs.YtokfphfgcjbpkaaGreatDoor
