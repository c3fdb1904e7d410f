/- Contracts of the document's own TextKey and TakeTextKey. -/
import Derived.Test.YtlcoeoilakobjaaDoorTText
namespace Go.Proofs.YtlcoeoilakobjaaDoor
open Go.RowKit
set_option linter.unusedVariables false
set_option maxRecDepth 20000

set_option maxHeartbeats 1000000 in
theorem refTextKey_any (s : ByteArray) (w : World) (hs : s.size ≤ 70368744177000) :
    Calls Tryd.prog 40 #[.string s] w fun e w' => ∃ v', e = .returned v' ∧ w'.ownsRow w.heap.size 5 1 v' (tkey s.data.toList).length ((tkey s.data.toList).map by8) ∧ Below w.heap.size w w' := by
  obtain ⟨i0, hi, hz0, hz1, hz2⟩ := info_parts Tryd.infoU8
  have hsl : s.data.toList.length = s.size := by rw [Array.length_toList]; rfl
  go_enter Tryd.func40, Tryd.ntmps40
  go_wp2_with fail
  go_loopw [3, 4] (fun u i wr => ∃ k : Nat, k ≤ s.size ∧ i = .int .i64 k ∧ wr.ownsRow w.heap.size 5 1 u (escs (s.data.toList.take k)).length ((escs (s.data.toList.take k)).map by8) ∧ Below w.heap.size w wr) (fun _ i _ => s.size - (intOf i).toNat)
  case atStart => exact ⟨0, Nat.zero_le _, rfl, World.ownsRow_nil _ _ _ _, Below.refl _ _⟩
  case round =>
    obtain ⟨k, hk, rfl, hown, hbel⟩ := hrel
    have hszr := hbel.size
    have hle := escs_le (s.data.toList.take k)
    have hlt2 : (s.data.toList.take k).length ≤ k := List.length_take_le _ _
    by_cases hlt : k < s.size
    · have HT := hid (escs_take s.data.toList k (by omega))
      rw [str_at s k hlt] at HT
      by_cases hc : s[k] = 0
      · have hc' : (s[k].toNat : Int) = 0 := by rw [hc]; rfl
        have HC := hid hc
        clear hc
        generalize escs (s.data.toList.take k) = E at *
        go_wp2_with (first
          | (at_builtin; refine wpList_append_own _ rfl (.tmp 11) (.tmp 15) 30 rfl w.heap.size 5 i0 (.int .u8 0) 1 1 Tryd.underlying30 hi hz0 hz1 hz2 rfl (by decide) _ _ _ rfl (hown.alloc _) ⟨wr.heap.size, 0, none⟩ 1 1 [.int .u8 0] rfl rfl (one_cell _ _ _) (by intro u hu; simp at hu; subst hu; rfl) (by unfold maxLen; omega) (by omega) (by simp; omega) ?_; intro v2 w2 hown2 hg2 _)
          | (at_builtin; refine wpList_append_own _ rfl (.tmp 21) (.tmp 22) 30 rfl w.heap.size 5 i0 (.int .u8 0) 1 1 Tryd.underlying30 hi hz0 hz1 hz2 rfl (by decide) _ _ _ rfl (hown2.alloc _) ⟨w2.heap.size, 0, none⟩ 1 1 [.int .u8 255] rfl rfl (one_cell _ _ _) (by intro u hu; simp at hu; subst hu; rfl) (by unfold maxLen; omega) (by omega) (by have := hg2.size; simp at this ⊢; omega) ?_; intro v3 w3 hown3 hg3 _)
          | fail)
        have hbA : Below w.heap.size w w2 := (hbel.alloc hszr _).grown hg2 (by simp; omega) (fun q hq => (hown.lt q hq).1)
        have hbB : Below w.heap.size w w3 := (hbA.alloc hbA.size _).grown hg3 (by have := hbA.size; simp; omega) (fun q hq => (hown2.lt q hq).1)
        go_roundw
        case rel =>
          refine ⟨k + 1, by omega, by go_num, ?_, hbB⟩
          rw [HT.out, HC.out]
          have e : (E ++ esc 0).length = E.length + 1 + 1 := by simp [esc]
          rw [e]
          simpa [esc, by8] using hown3
        case measure => simp [intOf]; omega
      · have hc' : ((s[k].toNat : Int) == 0) = false := by
          rw [beq_eq_false_iff_ne]
          intro h
          exact hc (UInt8.toNat_inj.1 (by simpa using h))
        have HC := hid hc
        clear hc
        generalize escs (s.data.toList.take k) = E at *
        go_wp2_with (first
          | (at_builtin; refine wpList_append_own _ rfl (.tmp 11) (.tmp 15) 30 rfl w.heap.size 5 i0 (.int .u8 0) 1 1 Tryd.underlying30 hi hz0 hz1 hz2 rfl (by decide) _ _ _ rfl (hown.alloc _) ⟨wr.heap.size, 0, none⟩ 1 1 [.int .u8 (s[k].toNat : Int)] rfl rfl (one_cell _ _ _) (by intro u hu; simp at hu; subst hu; rfl) (by unfold maxLen; omega) (by omega) (by simp; omega) ?_; intro v2 w2 hown2 hg2 _)
          | fail)
        have hbA : Below w.heap.size w w2 := (hbel.alloc hszr _).grown hg2 (by simp; omega) (fun q hq => (hown.lt q hq).1)
        go_roundw
        case rel =>
          refine ⟨k + 1, by omega, by go_num, ?_, hbA⟩
          rw [HT.out]
          have e : esc s[k] = [s[k]] := by rw [esc, if_neg HC.out]
          have e2 : (E ++ [s[k]]).length = E.length + 1 := by simp
          rw [e, e2]
          simpa [by8] using hown2
        case measure => simp [intOf]; omega
    · have htk : s.data.toList.take k = s.data.toList := List.take_of_length_le (by omega)
      rw [htk] at hown hle
      have hE : tkey s.data.toList = escs s.data.toList ++ [0, 0] := rfl
      have HE := hid hE
      clear hE htk
      generalize escs s.data.toList = E at *
      go_wp2_with (first
        | (at_builtin; refine wpList_append_own _ rfl (.tmp 24) (.tmp 25) 30 rfl w.heap.size 5 i0 (.int .u8 0) 1 1 Tryd.underlying30 hi hz0 hz1 hz2 rfl (by decide) _ _ _ rfl (hown.alloc _) ⟨wr.heap.size, 0, none⟩ 2 2 [.int .u8 0, .int .u8 0] rfl rfl (two_cells _ _ _ _) (by intro u hu; simp at hu; subst hu; rfl) (by unfold maxLen; omega) (by omega) (by simp; omega) ?_; intro v2 w2 hown2 hg2 _)
        | fail)
      have hbA : Below w.heap.size w w2 := (hbel.alloc hszr _).grown hg2 (by simp; omega) (fun q hq => (hown.lt q hq).1)
      go_ret
      refine ⟨_, rfl, ?_, hbA⟩
      rw [HE.out]
      have e : (E ++ [(0 : UInt8), 0]).length = E.length + 2 := by simp
      rw [e]
      simpa [by8] using hown2

set_option maxHeartbeats 2000000 in
theorem refTakeText_some (B0 b off c : Nat) (bs : List UInt8) (w : World) (hB : B0 ≤ w.heap.size) (hsh : Shows B0 w (.slice (some ⟨b, off, none⟩) bs.length c) bs) (hbB : b < B0) (hne : bs ≠ []) (hl : bs.length ≤ 140737488351232) :
    Calls Tryd.prog 42 #[.slice (some ⟨b, off, none⟩) bs.length c] w fun e w' => e = .returned (.tuple #[.string (str8 (ttext bs).2.1), .int .i64 (ttext bs).2.2, .int .i64 (ttext bs).1]) ∧ Below w.heap.size w w' := by
  obtain ⟨i0, hi, hz0, hz1, hz2⟩ := info_parts Tryd.infoU8
  have hcell : ∀ j, j < bs.length → w.cell? ⟨b, off + j, none⟩ = some (.int .u8 ((bs[j]?.getD 0).toNat : Int)) := by
    obtain ⟨a, c', hv, _, _, _, h3⟩ := hsh
    obtain ⟨b', off', ha, _, hc⟩ := h3 hne
    simp only [Value.slice.injEq] at hv
    rw [← hv.1] at ha
    simp only [Option.some.injEq, Addr.mk.injEq] at ha
    obtain ⟨rfl, rfl, _⟩ := ha
    exact hc
  have HCELL := hid hcell
  clear hcell
  go_enter Tryd.func42, Tryd.ntmps42
  go_wp2_with fail
  go_loopw [5, 6] (fun u i wr => ∃ (p : Nat) (acc : List UInt8), p ≤ bs.length ∧ i = .int .i64 p ∧ acc.length ≤ p ∧ wr.ownsRow w.heap.size 5 1 u acc.length (acc.map by8) ∧ Below w.heap.size w wr ∧ Hid (thenText acc p (ttext (bs.drop p)) = ttext bs)) (fun _ i _ => bs.length - (intOf i).toNat)
  case atStart => exact ⟨0, [], Nat.zero_le _, rfl, by simp, World.ownsRow_nil _ _ _ _, Below.refl _ _, ttext_nil _ (ttext_errs bs)⟩
  case round =>
    obtain ⟨p, acc, hp, rfl, hacc, hown, hbel, hfin⟩ := hrel
    have hszr := hbel.size
    by_cases hlt : p < bs.length
    · have hcp := (hbel.cell (p := ⟨b, off + p, none⟩) (by show b < _; omega)).trans (HCELL.out p hlt)
      have hd := drop_at bs p hlt
      by_cases h0 : bs[p]?.getD 0 = 0
      · rw [h0] at hcp hd
        by_cases hend : p + 1 = bs.length
        · have hdd : bs.drop (p + 1) = [] := List.drop_of_length_le (by omega)
          have hf : ttext bs = (3, [], 0) := by rw [← hfin.out, hd, hdd, ttext_end]; rfl
          have HF := hid hf
          have hend' : (((p : Int) + 1) == (bs.length : Int)) = true := by rw [beq_iff_eq]; omega
          clear hf hfin hdd hd h0 hend
          go_wp2
          go_ret3
          exact ⟨by rw [HF.out]; rfl, hbel⟩
        · have hlt1 : p + 1 < bs.length := by omega
          have hcq := (hbel.cell (p := ⟨b, off + (p + 1), none⟩) (by show b < _; omega)).trans (HCELL.out (p + 1) hlt1)
          have hd1 := drop_at bs (p + 1) hlt1
          have hend' : (((p : Int) + 1) == (bs.length : Int)) = false := by rw [beq_eq_false_iff_ne]; omega
          have hltz : (p : Int) + 1 < (bs.length : Int) := by omega
          by_cases hz : bs[p + 1]?.getD 0 = 0
          · rw [hz] at hcq hd1
            have hf : ttext bs = (0, acc, p + 2) := by rw [← hfin.out, hd, hd1, ttext_zero]; simp [thenText]
            have HF := hid hf
            have hstr := run_string_shows (P := Tryd.prog) 30 5 9 Tryd.underlying30 Tryd.underlying5 Tryd.underlying9 (shows_of_owns hown).2
            clear hf hfin hd hd1 h0 hend hz
            go_wp2
            go_ret3
            exact ⟨ret_t3 (by rw [HF.out]; rfl) (by rw [HF.out]; show (p : Int) + 2 = ((p + 2 : Nat) : Int); omega) (by rw [HF.out]; rfl), hbel⟩
          · by_cases hq255 : bs[p + 1]?.getD 0 = 255
            · rw [hq255] at hcq hd1
              have hf : thenText (acc ++ [0]) (p + 2) (ttext (bs.drop (p + 1 + 1))) = ttext bs := by rw [← hfin.out, hd, hd1, ttext_esc, thenText_add]
              have HF := hid hf
              clear hf hfin hd hd1 h0 hend hz hq255
              go_wp2_with (first
                | (at_builtin; refine wpList_append_own _ rfl (.tmp 46) (.tmp 47) 30 rfl w.heap.size 5 i0 (.int .u8 0) 1 1 Tryd.underlying30 hi hz0 hz1 hz2 rfl (by decide) _ _ _ rfl (hown.alloc _) ⟨wr.heap.size, 0, none⟩ 1 1 [.int .u8 0] rfl rfl (one_cell _ _ _) (by intro u hu; simp at hu; subst hu; rfl) (by unfold maxLen; omega) (by omega) (by simp; omega) ?_; intro v2 w2 hown2 hg2 _)
                | fail)
              have hbA : Below w.heap.size w w2 := (hbel.alloc hszr _).grown hg2 (by simp; omega) (fun q hq => (hown.lt q hq).1)
              go_roundw
              case rel => exact ⟨p + 2, acc ++ [0], by omega, by go_num, by simp; omega, by have e : (acc ++ [(0 : UInt8)]).length = acc.length + 1 := by { simp }; rw [e]; simpa [by8] using hown2, hbA, HF⟩
              case measure => simp [intOf]; omega
            · have hf : ttext bs = (4, [], 0) := by rw [← hfin.out, hd, hd1, ttext_form _ _ hz hq255]; rfl
              have HF := hid hf
              have hn0 := toNat_ne _ 0 hz
              have hn1 := toNat_ne _ 255 hq255
              clear hf hfin hd hd1 h0 hend hz hq255
              generalize bs[p + 1]?.getD 0 = d at *
              simp only [show ((0 : UInt8).toNat : Int) = 0 from rfl, show ((255 : UInt8).toNat : Int) = 255 from rfl] at hn0 hn1
              go_wp2
              go_ret3
              exact ⟨by rw [HF.out]; rfl, hbel⟩
      · have hf : thenText (acc ++ [bs[p]?.getD 0]) (p + 1) (ttext (bs.drop (p + 1))) = ttext bs := by rw [← hfin.out, hd, ttext_byte _ _ h0, thenText_add]
        have HF := hid hf
        have hn0 := toNat_ne _ 0 h0
        simp only [show ((0 : UInt8).toNat : Int) = 0 from rfl] at hn0
        clear hf hfin hd h0
        generalize bs[p]?.getD 0 = d at *
        go_wp2_with (first
          | (at_builtin; refine wpList_append_own _ rfl (.tmp 18) (.tmp 23) 30 rfl w.heap.size 5 i0 (.int .u8 0) 1 1 Tryd.underlying30 hi hz0 hz1 hz2 rfl (by decide) _ _ _ rfl (hown.alloc _) ⟨wr.heap.size, 0, none⟩ 1 1 [.int .u8 (d.toNat : Int)] rfl rfl (one_cell _ _ _) (by intro u hu; simp at hu; subst hu; rfl) (by unfold maxLen; omega) (by omega) (by simp; omega) ?_; intro v2 w2 hown2 hg2 _)
          | fail)
        have hbA : Below w.heap.size w w2 := (hbel.alloc hszr _).grown hg2 (by simp; omega) (fun q hq => (hown.lt q hq).1)
        go_roundw
        case rel => exact ⟨p + 1, acc ++ [d], by omega, by go_num, by simp; omega, by have e : (acc ++ [d]).length = acc.length + 1 := by { simp }; rw [e]; simpa [by8] using hown2, hbA, HF⟩
        case measure => simp [intOf]; omega
    · have hdd : bs.drop p = [] := List.drop_of_length_le (by omega)
      have hf : ttext bs = (3, [], 0) := by rw [← hfin.out, hdd]; rfl
      have HF := hid hf
      clear hf hfin hdd
      go_wp2
      go_ret3
      exact ⟨by rw [HF.out]; rfl, hbel⟩

set_option maxHeartbeats 1000000 in
theorem refTakeText_none (a : Option Addr) (c : Nat) (w : World) :
    Calls Tryd.prog 42 #[.slice a 0 c] w fun e w' => e = .returned (.tuple #[.string (str8 []), .int .i64 0, .int .i64 3]) ∧ Below w.heap.size w w' := by
  go_enter Tryd.func42, Tryd.ntmps42
  go_wp2_with fail
  go_rounds 1
  go_ret3
  exact ⟨rfl, Below.refl _ _⟩

theorem refTakeText_any (B0 : Nat) (v : Value) (bs : List UInt8) (w : World) (hB : B0 ≤ w.heap.size) (hsh : Shows B0 w v bs) (hl : bs.length ≤ 140737488351232) :
    Calls Tryd.prog 42 #[v] w fun e w' => e = .returned (.tuple #[.string (str8 (ttext bs).2.1), .int .i64 (ttext bs).2.2, .int .i64 (ttext bs).1]) ∧ Below w.heap.size w w' := by
  have hsh0 := hsh
  obtain ⟨a, c, rfl, h1, h2, hn, h3⟩ := hsh
  by_cases hne : bs = []
  · subst hne
    exact refTakeText_none a c w
  · obtain ⟨b, off, rfl, hlt, _⟩ := h3 hne
    exact refTakeText_some B0 b off c bs w hB hsh0 hlt hne hl
end Go.Proofs.YtlcoeoilakobjaaDoor
