/- Contracts of plain.TextKey and plain.TakeTextKey. -/
import Derived.Test.YthjgbcbgkafgjaaDoorBase
namespace Go.Proofs.YthjgbcbgkafgjaaDoor
open Go.RowKit
set_option linter.unusedVariables false
set_option maxRecDepth 20000

/-- A byte in a text's key. -/
def esc (c : UInt8) : List UInt8 := if c = 0 then [0, 255] else [c]

/-- Bytes in a text's key. -/
def escs (bs : List UInt8) : List UInt8 := bs.flatMap esc

/-- A text's key. -/
def tkey (bs : List UInt8) : List UInt8 := escs bs ++ [0, 0]

theorem esc_le (c : UInt8) : (esc c).length ≤ 2 := by unfold esc; split <;> simp

theorem escs_le (bs : List UInt8) : (escs bs).length ≤ 2 * bs.length := by
  induction bs with
  | nil => simp [escs]
  | cons c bs ih =>
    have := esc_le c
    simp [escs] at ih ⊢
    omega

theorem escs_take (bs : List UInt8) (k : Nat) (h : k < bs.length) : escs (bs.take (k + 1)) = escs (bs.take k) ++ esc (bs[k]?.getD 0) := by
  rw [List.take_succ_eq_append_getElem h, escs, List.flatMap_append, List.getElem?_eq_getElem h]
  simp only [escs, List.flatMap_cons, List.flatMap_nil, List.append_nil, Option.getD_some]

theorem str_at (s : ByteArray) (k : Nat) (h : k < s.size) : s.data.toList[k]?.getD 0 = s[k] := by
  have h' : k < s.data.toList.length := by simpa using h
  rw [List.getElem?_eq_getElem h']
  rfl

set_option maxHeartbeats 1000000 in
theorem textKey_any (s : ByteArray) (w : World) (hs : s.size ≤ 70368744177000) :
    Calls Tryd.prog 43 #[.string s] w fun e w' => ∃ v', e = .returned v' ∧ w'.ownsRow w.heap.size 5 1 v' (tkey s.data.toList).length ((tkey s.data.toList).map by8) ∧ Below w.heap.size w w' := by
  obtain ⟨i0, hi, hz0, hz1, hz2⟩ := info_parts Tryd.infoU8
  have hsl : s.data.toList.length = s.size := by rw [Array.length_toList]; rfl
  go_enter Tryd.func43, Tryd.ntmps43
  go_wp2_with (first
    | (at_make; refine wpList_make_own _ rfl _ _ 29 rfl w.heap.size 5 i0 (.int .u8 0) 1 Tryd.underlying29 hi hz0 hz1 _ _ _ (s.size + 2) rfl rfl (by omega) ?b2 ?b3 (Nat.le_refl _) ?_)
    | fail)
  case b2 => first | omega | (rw [hz2]; omega)
  case b3 => unfold maxLen; omega
  intro w1 hown1 hgr1
  have hb1 : Below w.heap.size w w1 := (Below.refl _ _).grown hgr1 (Nat.le_refl _) (fun x hx => by cases hx)
  have hsz1 := hb1.size
  go_wp2_with fail
  go_loopw [3, 11] (fun u i wr => ∃ k : Nat, k ≤ s.size ∧ i = .int .i64 k ∧ wr.ownsRow w.heap.size 5 1 u (escs (s.data.toList.take k)).length ((escs (s.data.toList.take k)).map by8) ∧ Below w.heap.size w wr) (fun _ i _ => s.size - (intOf i).toNat)
  case atStart => exact ⟨0, Nat.zero_le _, rfl, by simpa [escs] using hown1, hb1⟩
  case round =>
    obtain ⟨k, hk, rfl, hown, hbel⟩ := hrel
    have hszr := hbel.size
    have hle := escs_le (s.data.toList.take k)
    have hlt2 : (s.data.toList.take k).length ≤ k := List.length_take_le _ _
    by_cases hlt : k < s.size
    · have HT := hid (escs_take s.data.toList k (by omega))
      rw [str_at s k hlt] at HT
      by_cases hc : s[k] = 0
      · have hc' : (s[k].toNat : Int) = 0 := by rw [hc]; rfl
        have HC := hid hc
        clear hc
        generalize escs (s.data.toList.take k) = E at *
        go_wp2_with (first
          | (at_builtin; refine wpList_append_own _ rfl (.tmp 14) (.tmp 18) 29 rfl w.heap.size 5 i0 (.int .u8 0) 1 1 Tryd.underlying29 hi hz0 hz1 hz2 rfl (by decide) _ _ _ rfl (hown.alloc _) ⟨wr.heap.size, 0, none⟩ 1 1 [.int .u8 0] rfl rfl (one_cell _ _ _) (by intro u hu; simp at hu; subst hu; rfl) (by unfold maxLen; omega) (by omega) (by simp; omega) ?_; intro v2 w2 hown2 hg2 _)
          | (at_builtin; refine wpList_append_own _ rfl (.tmp 24) (.tmp 25) 29 rfl w.heap.size 5 i0 (.int .u8 0) 1 1 Tryd.underlying29 hi hz0 hz1 hz2 rfl (by decide) _ _ _ rfl (hown2.alloc _) ⟨w2.heap.size, 0, none⟩ 1 1 [.int .u8 255] rfl rfl (one_cell _ _ _) (by intro u hu; simp at hu; subst hu; rfl) (by unfold maxLen; omega) (by omega) (by have := hg2.size; simp at this ⊢; omega) ?_; intro v3 w3 hown3 hg3 _)
          | fail)
        have hbA : Below w.heap.size w w2 := (hbel.alloc hszr _).grown hg2 (by simp; omega) (fun q hq => (hown.lt q hq).1)
        have hbB : Below w.heap.size w w3 := (hbA.alloc hbA.size _).grown hg3 (by have := hbA.size; simp; omega) (fun q hq => (hown2.lt q hq).1)
        go_roundw
        case rel =>
          refine ⟨k + 1, by omega, by go_num, ?_, hbB⟩
          rw [HT.out, HC.out]
          have e : (E ++ esc 0).length = E.length + 1 + 1 := by simp [esc]
          rw [e]
          simpa [esc, by8] using hown3
        case measure => simp [intOf]; omega
      · have hc' : ((s[k].toNat : Int) == 0) = false := by
          rw [beq_eq_false_iff_ne]
          intro h
          exact hc (UInt8.toNat_inj.1 (by simpa using h))
        have HC := hid hc
        clear hc
        generalize escs (s.data.toList.take k) = E at *
        go_wp2_with (first
          | (at_builtin; refine wpList_append_own _ rfl (.tmp 14) (.tmp 18) 29 rfl w.heap.size 5 i0 (.int .u8 0) 1 1 Tryd.underlying29 hi hz0 hz1 hz2 rfl (by decide) _ _ _ rfl (hown.alloc _) ⟨wr.heap.size, 0, none⟩ 1 1 [.int .u8 (s[k].toNat : Int)] rfl rfl (one_cell _ _ _) (by intro u hu; simp at hu; subst hu; rfl) (by unfold maxLen; omega) (by omega) (by simp; omega) ?_; intro v2 w2 hown2 hg2 _)
          | fail)
        have hbA : Below w.heap.size w w2 := (hbel.alloc hszr _).grown hg2 (by simp; omega) (fun q hq => (hown.lt q hq).1)
        go_roundw
        case rel =>
          refine ⟨k + 1, by omega, by go_num, ?_, hbA⟩
          rw [HT.out]
          have e : esc s[k] = [s[k]] := by rw [esc, if_neg HC.out]
          have e2 : (E ++ [s[k]]).length = E.length + 1 := by simp
          rw [e, e2]
          simpa [by8] using hown2
        case measure => simp [intOf]; omega
    · have htk : s.data.toList.take k = s.data.toList := List.take_of_length_le (by omega)
      rw [htk] at hown hle
      have hE : tkey s.data.toList = escs s.data.toList ++ [0, 0] := rfl
      have HE := hid hE
      clear hE htk
      generalize escs s.data.toList = E at *
      go_wp2_with (first
        | (at_builtin; refine wpList_append_own _ rfl (.tmp 28) (.tmp 29) 29 rfl w.heap.size 5 i0 (.int .u8 0) 1 1 Tryd.underlying29 hi hz0 hz1 hz2 rfl (by decide) _ _ _ rfl (hown.alloc _) ⟨wr.heap.size, 0, none⟩ 2 2 [.int .u8 0, .int .u8 0] rfl rfl (two_cells _ _ _ _) (by intro u hu; simp at hu; subst hu; rfl) (by unfold maxLen; omega) (by omega) (by simp; omega) ?_; intro v2 w2 hown2 hg2 _)
        | fail)
      have hbA : Below w.heap.size w w2 := (hbel.alloc hszr _).grown hg2 (by simp; omega) (fun q hq => (hown.lt q hq).1)
      go_ret
      refine ⟨_, rfl, ?_, hbA⟩
      rw [HE.out]
      have e : (E ++ [(0 : UInt8), 0]).length = E.length + 2 := by simp
      rw [e]
      simpa [by8] using hown2
end Go.Proofs.YthjgbcbgkafgjaaDoor
