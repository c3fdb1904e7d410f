/- Contracts of the document's own TextKey and TakeTextKey. -/
import Derived.Test.YthjgbcbgkafgjaaDoorTText
namespace Go.Proofs.YthjgbcbgkafgjaaDoor
open Go.RowKit
set_option linter.unusedVariables false
set_option maxRecDepth 20000

set_option maxHeartbeats 1000000 in
theorem refTextKey_any (s : ByteArray) (w : World) (hs : s.size ≤ 70368744177000) :
    Calls Tryd.prog 47 #[.string s] w fun e w' => ∃ v', e = .returned v' ∧ w'.ownsRow w.heap.size 5 1 v' (tkey s.data.toList).length ((tkey s.data.toList).map by8) ∧ Below w.heap.size w w' := by
  obtain ⟨i0, hi, hz0, hz1, hz2⟩ := info_parts Tryd.infoU8
  have hsl : s.data.toList.length = s.size := by rw [Array.length_toList]; rfl
  go_enter Tryd.func47, Tryd.ntmps47
  go_wp2_with fail
  go_loopw [3, 4] (fun u i wr => ∃ k : Nat, k ≤ s.size ∧ i = .int .i64 k ∧ wr.ownsRow w.heap.size 5 1 u (escs (s.data.toList.take k)).length ((escs (s.data.toList.take k)).map by8) ∧ Below w.heap.size w wr) (fun _ i _ => s.size - (intOf i).toNat)
  case atStart => exact ⟨0, Nat.zero_le _, rfl, World.ownsRow_nil _ _ _ _, Below.refl _ _⟩
  case round =>
    obtain ⟨k, hk, rfl, hown, hbel⟩ := hrel
    have hszr := hbel.size
    have hle := escs_le (s.data.toList.take k)
    have hlt2 : (s.data.toList.take k).length ≤ k := List.length_take_le _ _
    by_cases hlt : k < s.size
    · have HT := hid (escs_take s.data.toList k (by omega))
      rw [str_at s k hlt] at HT
      by_cases hc : s[k] = 0
      · have hc' : (s[k].toNat : Int) = 0 := by rw [hc]; rfl
        have HC := hid hc
        clear hc
        generalize escs (s.data.toList.take k) = E at *
        go_wp2_with (first
          | (at_builtin; refine wpList_append_own _ rfl (.tmp 11) (.tmp 15) 29 rfl w.heap.size 5 i0 (.int .u8 0) 1 1 Tryd.underlying29 hi hz0 hz1 hz2 rfl (by decide) _ _ _ rfl (hown.alloc _) ⟨wr.heap.size, 0, none⟩ 1 1 [.int .u8 0] rfl rfl (one_cell _ _ _) (by intro u hu; simp at hu; subst hu; rfl) (by unfold maxLen; omega) (by omega) (by simp; omega) ?_; intro v2 w2 hown2 hg2 _)
          | (at_builtin; refine wpList_append_own _ rfl (.tmp 21) (.tmp 22) 29 rfl w.heap.size 5 i0 (.int .u8 0) 1 1 Tryd.underlying29 hi hz0 hz1 hz2 rfl (by decide) _ _ _ rfl (hown2.alloc _) ⟨w2.heap.size, 0, none⟩ 1 1 [.int .u8 255] rfl rfl (one_cell _ _ _) (by intro u hu; simp at hu; subst hu; rfl) (by unfold maxLen; omega) (by omega) (by have := hg2.size; simp at this ⊢; omega) ?_; intro v3 w3 hown3 hg3 _)
          | fail)
        have hbA : Below w.heap.size w w2 := (hbel.alloc hszr _).grown hg2 (by simp; omega) (fun q hq => (hown.lt q hq).1)
        have hbB : Below w.heap.size w w3 := (hbA.alloc hbA.size _).grown hg3 (by have := hbA.size; simp; omega) (fun q hq => (hown2.lt q hq).1)
        go_roundw
        case rel =>
          refine ⟨k + 1, by omega, by go_num, ?_, hbB⟩
          rw [HT.out, HC.out]
          have e : (E ++ esc 0).length = E.length + 1 + 1 := by simp [esc]
          rw [e]
          simpa [esc, by8] using hown3
        case measure => simp [intOf]; omega
      · have hc' : ((s[k].toNat : Int) == 0) = false := by
          rw [beq_eq_false_iff_ne]
          intro h
          exact hc (UInt8.toNat_inj.1 (by simpa using h))
        have HC := hid hc
        clear hc
        generalize escs (s.data.toList.take k) = E at *
        go_wp2_with (first
          | (at_builtin; refine wpList_append_own _ rfl (.tmp 11) (.tmp 15) 29 rfl w.heap.size 5 i0 (.int .u8 0) 1 1 Tryd.underlying29 hi hz0 hz1 hz2 rfl (by decide) _ _ _ rfl (hown.alloc _) ⟨wr.heap.size, 0, none⟩ 1 1 [.int .u8 (s[k].toNat : Int)] rfl rfl (one_cell _ _ _) (by intro u hu; simp at hu; subst hu; rfl) (by unfold maxLen; omega) (by omega) (by simp; omega) ?_; intro v2 w2 hown2 hg2 _)
          | fail)
        have hbA : Below w.heap.size w w2 := (hbel.alloc hszr _).grown hg2 (by simp; omega) (fun q hq => (hown.lt q hq).1)
        go_roundw
        case rel =>
          refine ⟨k + 1, by omega, by go_num, ?_, hbA⟩
          rw [HT.out]
          have e : esc s[k] = [s[k]] := by rw [esc, if_neg HC.out]
          have e2 : (E ++ [s[k]]).length = E.length + 1 := by simp
          rw [e, e2]
          simpa [by8] using hown2
        case measure => simp [intOf]; omega
    · have htk : s.data.toList.take k = s.data.toList := List.take_of_length_le (by omega)
      rw [htk] at hown hle
      have hE : tkey s.data.toList = escs s.data.toList ++ [0, 0] := rfl
      have HE := hid hE
      clear hE htk
      generalize escs s.data.toList = E at *
      go_wp2_with (first
        | (at_builtin; refine wpList_append_own _ rfl (.tmp 24) (.tmp 25) 29 rfl w.heap.size 5 i0 (.int .u8 0) 1 1 Tryd.underlying29 hi hz0 hz1 hz2 rfl (by decide) _ _ _ rfl (hown.alloc _) ⟨wr.heap.size, 0, none⟩ 2 2 [.int .u8 0, .int .u8 0] rfl rfl (two_cells _ _ _ _) (by intro u hu; simp at hu; subst hu; rfl) (by unfold maxLen; omega) (by omega) (by simp; omega) ?_; intro v2 w2 hown2 hg2 _)
        | fail)
      have hbA : Below w.heap.size w w2 := (hbel.alloc hszr _).grown hg2 (by simp; omega) (fun q hq => (hown.lt q hq).1)
      go_ret
      refine ⟨_, rfl, ?_, hbA⟩
      rw [HE.out]
      have e : (E ++ [(0 : UInt8), 0]).length = E.length + 2 := by simp
      rw [e]
      simpa [by8] using hown2

end Go.Proofs.YthjgbcbgkafgjaaDoor
