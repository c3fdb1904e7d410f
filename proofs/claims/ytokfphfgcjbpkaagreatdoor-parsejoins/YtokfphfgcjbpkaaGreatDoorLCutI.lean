/- Contracts of lex.cutSign, cut (written by tools/lcuti.py). -/
import Derived.Test.YtokfphfgcjbpkaaGreatDoorLCutH
namespace Go.Proofs.YtokfphfgcjbpkaaGreatDoor
open Go.RowKit Go.Shelf
set_option linter.unusedVariables false
set_option linter.unusedSimpArgs false
set_option maxRecDepth 20000

theorem drop_consL {α : Type} (xs : List α) (k : Nat) (x : α) (h : xs[k]? = some x) : xs.drop k = x :: xs.drop (k + 1) := by
  obtain ⟨hk, e⟩ := List.getElem?_eq_some_iff.1 h
  rw [List.drop_eq_getElem_cons hk, e]

theorem signs_fields : Lib.fields [60, 62, 32, 60, 61, 32, 62, 61, 32, 40, 32, 41, 32, 44, 32, 59, 32, 46, 32, 42, 32, 43, 32, 45, 32, 47, 32, 37, 32, 61, 32, 60, 32, 62] = signsB := by decide

theorem Tryz.infoStr9 : (Tryz.prog.info? 9).map (fun i => (i.zero, i.size, i.bytes)) = some (some (.string ByteArray.empty), 1, 16) := by kernel_rfl

theorem numT9 : renV.t 9 = 9 := by decide

theorem fields_any (w : World) (hT : TabL w) : Calls Tryz.prog 113 #[.string ⟨#[60, 62, 32, 60, 61, 32, 62, 61, 32, 40, 32, 41, 32, 44, 32, 59, 32, 46, 32, 42, 32, 43, 32, 45, 32, 47, 32, 37, 32, 61, 32, 60, 32, 62]⟩] w fun e w' => e = .returned (.slice (some ⟨w.heap.size, 0, none⟩) 16 16) ∧ w' = w.alloc (.cells ((signsB.map fun l => Value.string (str8 l)).toArray) 9) := by
  have hB := Any.strings_Fields laysFi (by rw [numT9]; exact Tryz.infoStr9) (by rw [numG.1]; kernel_rfl) ⟨#[60, 62, 32, 60, 61, 32, 62, 61, 32, 40, 32, 41, 32, 44, 32, 59, 32, 46, 32, 42, 32, 43, 32, 45, 32, 47, 32, 37, 32, 61, 32, 60, 32, 62]⟩ w (by decide) (by
    intro j b hb
    have hm := List.mem_of_getElem? hb
    revert hm b
    intro b _ hm
    have : ∀ c ∈ ([60, 62, 32, 60, 61, 32, 62, 61, 32, 40, 32, 41, 32, 44, 32, 59, 32, 46, 32, 42, 32, 43, 32, 45, 32, 47, 32, 37, 32, 61, 32, 60, 32, 62] : List UInt8), c.toNat < 128 := by decide
    exact this b hm) hT.spc
  rw [numL.2.2.2.1, numT9] at hB
  have e : Lib.fields (⟨#[60, 62, 32, 60, 61, 32, 62, 61, 32, 40, 32, 41, 32, 44, 32, 59, 32, 46, 32, 42, 32, 43, 32, 45, 32, 47, 32, 37, 32, 61, 32, 60, 32, 62]⟩ : ByteArray).data.toList = signsB := signs_fields
  rw [e] at hB
  exact hB

set_option maxHeartbeats 1000000 in
theorem cutSign_any (s : List UInt8) (w : World) (hT : TabL w) (hs : s.length ≤ 140737488351232) : Calls Tryz.prog 71 #[.string (str8 s)] w fun e w' => e = .returned (cutA (cutSignT s)) ∧ Below w.heap.size w w' := by
  obtain ⟨W, hW, hbW, hzW, hcW⟩ := box4 w (.int .i64 0) (.string ⟨#[]⟩) (.int .i64 0) (.int .i64 0) 71
  have HCW := hid hcW
  have HB := hid hbW
  clear hcW hbW
  have HF := hid (fields_any W (hT.on HB.out))
  obtain ⟨W2, hW2⟩ : ∃ W2, W.alloc (.cells ((signsB.map fun l => Value.string (str8 l)).toArray) 9) = W2 := ⟨_, rfl⟩
  rw [hW2] at HF
  have HD : Hid (Below W.heap.size W W2) := hid (by rw [← hW2]; exact (Below.refl _ _).alloc (Nat.le_refl _) _)
  have HN : Hid (W2.heap[W.heap.size]? = some (.cells ((signsB.map fun l => Value.string (str8 l)).toArray) 9)) := hid (by rw [← hW2]; exact heap_alloc_new _ _)
  have HE : Hid (Below w.heap.size w W2) := hid (HB.out.trans (HD.out.mono (Nat.le_of_lt hzW)))
  have g0 := cells4 (HCW.out W2 HD.out)
  have hd : cutSignT s = signT signsB s := rfl
  rw [hd]
  clear hd hW2 hT
  obtain ⟨X, hX⟩ : ∃ X, signT signsB s = X := ⟨_, rfl⟩
  rw [hX]
  have HX := hid hX
  clear hX
  go_enter Tryz.func71, Tryz.ntmps71
  go_wp2_with fail
  try rw [hW]
  clear hW
  refine HF.out.mono ?_
  rintro e w1 ⟨rfl, hw1⟩
  obtain rfl : W2 = w1 := hw1.symm
  clear hw1 HF
  go_wp2_with fail
  go_loopw [6, 9] (fun _ i wr => ∃ k : Nat, k ≤ 16 ∧ i = .int .i64 k ∧ wr = W2 ∧ Hid (signT (signsB.drop k) s = X)) (fun _ i _ => 16 - (intOf i).toNat)
  case atStart => exact ⟨0, by omega, rfl, rfl, HX⟩
  case round =>
    obtain ⟨k, hk, rfl, rfl, HR⟩ := hrel
    by_cases hlt : k < 16
    · obtain ⟨g, hg⟩ : ∃ g, signsB[k]? = some g := ⟨_, List.getElem?_eq_getElem (show k < signsB.length from hlt)⟩
      have hcell : wr.cell? ⟨W.heap.size, k, none⟩ = some (.string (str8 g)) := by
        rw [cell_row _ _ _ _ _ _ HN.out, List.getElem?_toArray, List.getElem?_map, hg]
        rfl
      have hgl : g.length ≤ 2 := by
        have : ∀ x ∈ signsB, x.length ≤ 2 := by decide
        exact this g (List.mem_of_getElem? hg)
      have hdr : signsB.drop k = g :: signsB.drop (k + 1) := drop_consL signsB k g hg
      rw [hdr, signT] at HR
      have HP := hid (fun w => hasPrefix_any s g w)
      clear hdr hg
      cases hp : g.isPrefixOf s with
      | true =>
        rw [hp] at HP HR
        have HV : Hid (cutA X = .tuple #[.agg #[.int .i64 5, .string (str8 g), .int .i64 0, .int .i64 0], .int .i64 (g.length : Int), .int .i64 0]) := hid (by rw [← HR.out]; rfl)
        clear HR hp
        go_wp2_with (go_at_call 63; refine (HP.out _).mono ?_; rintro e w3 ⟨rfl, hw3⟩; rw [hw3])
        exact bodyPost_ret (v := .tuple #[.agg #[.int .i64 5, .string (str8 g), .int .i64 0, .int .i64 0], .int .i64 (g.length : Int), .int .i64 0]) (by simp [results, Tryz.results71, go_sem, g0, str8_size]) rfl ⟨by rw [HV.out], (((HE.out.setCell (Nat.le_refl _) _).setCell (Nat.le_refl _) _).setCell (Nat.le_refl _) _).setCell (Nat.le_refl _) _⟩
      | false =>
        rw [hp] at HP HR
        have HR2 : Hid (signT (signsB.drop (k + 1)) s = X) := hid (by rw [← HR.out]; rfl)
        clear HR hp
        go_wp2_with (go_at_call 63; refine (HP.out _).mono ?_; rintro e w3 ⟨rfl, hw3⟩; rw [hw3])
        go_roundw
        case rel => exact ⟨k + 1, by omega, by go_num, by first | rfl | trivial, HR2⟩
        case measure => simp [intOf]; omega
    · obtain rfl : k = 16 := by omega
      have HV : Hid (cutA X = .tuple #[.agg #[.int .i64 0, .string ⟨#[]⟩, .int .i64 0, .int .i64 0], .int .i64 0, .int .i64 4]) := hid (by rw [← HR.out]; rfl)
      clear HR
      go_wp2
      exact bodyPost_ret (v := .tuple #[.agg #[.int .i64 0, .string ⟨#[]⟩, .int .i64 0, .int .i64 0], .int .i64 0, .int .i64 4]) (by simp [results, Tryz.results71, go_sem, g0]) rfl ⟨by rw [HV.out], (((HE.out.setCell (Nat.le_refl _) _).setCell (Nat.le_refl _) _).setCell (Nat.le_refl _) _).setCell (Nat.le_refl _) _⟩

set_option maxHeartbeats 1000000 in
theorem cut1_any (l : List UInt8) (c : UInt8) (r : List UInt8) (B : Nat) (W : World) (hB : B < W.heap.size) (hc : W.cell? ⟨B, 0, none⟩ = some (.string (str8 (c :: r)))) :
    Calls Tryz.prog 66 #[.string (str8 l), .pointer (some ⟨B, 0, none⟩)] W fun e w' => e = .returned (.bool (inS l c)) ∧ Below W.heap.size W w' := by
  have hix : ∀ w, (Instr.index 9 (.string (str8 (c :: r))) (.int .i64 0)).run Tryz.prog w = .ok (.int .u8 (c.toNat : Int)) w := run_ix (c :: r) 0 c rfl
  have HO := hid (fun w => oneOf_tells l w)
  have HD : Hid (Below W.heap.size W W.drew) := hid (below_drewN (Below.refl _ _) 1)
  have HFS : Hid (∀ V, Below W.heap.size W V → V.cell? ⟨B, 0, none⟩ = some (.string (str8 (c :: r)))) := hid (fun V hV => (hV.cell (p := ⟨B, 0, none⟩) hB).trans hc)
  have hS0 : W.drew.cell? ⟨B, 0, none⟩ = some (.string (str8 (c :: r))) := HFS.out _ HD.out
  obtain ⟨b, hb⟩ : ∃ b, inS l c = b := ⟨_, rfl⟩
  rw [hb]
  have HB := hid hb
  clear hb
  go_enter Tryz.func66, Tryz.ntmps66
  go_wp2_with fail
  go_region_held3 (fun w' => w'.cell? ⟨B, 0, none⟩ = some (.string (str8 (c :: r)))) (first | assumption) (first
    | (go_at_call 62; refine (HO.out _).mono ?_; rintro e w1 ⟨⟨rfl, hp⟩, hb1⟩
       have HP1 := hid (hp w1 c (Below.refl _ _))
       rw [HB.out] at HP1
       have HD1 : Hid (Below W.heap.size W w1) := hid (HD.out.trans (hb1.mono HD.out.size))
       have hS1 := HFS.out _ HD1.out
       clear hp hb1)
    | (go_at_call 104; refine HP1.out.mono ?_; rintro e w2 ⟨rfl, hw2⟩; rw [hw2]))
  all_goals go_wp2
  all_goals go_ret
  all_goals exact ⟨rfl, HD1.out⟩

end Go.Proofs.YtokfphfgcjbpkaaGreatDoor
