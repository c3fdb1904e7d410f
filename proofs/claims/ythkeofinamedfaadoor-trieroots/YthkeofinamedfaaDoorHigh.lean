/- Contract of plain.appendHighFirst: the bytes of n, the highest first, are put behind an owned row. -/
import Derived.Test.YthkeofinamedfaaDoorChecked
import Derived.Test.YthkeofinamedfaaDoorBase
namespace Go.Proofs.YthkeofinamedfaaDoor
open Go.RowKit
set_option linter.unusedVariables false
set_option maxRecDepth 20000

theorem Tryd.infoU8 : (Tryd.prog.info? 5).map (fun i => (i.zero, i.size, i.bytes)) = some (some (.int .u8 0), 1, 1) := by kernel_rfl

set_option maxHeartbeats 400000 in
theorem high_any (B : Nat) (v : Value) (k : Nat) (xs : List Value) (n s : Nat) (w : World) (hB : B ≤ w.heap.size)
    (hown : w.ownsRow B 5 1 v k xs) (hn : n < 18446744073709551616) (hs : s ≤ 8) (hk : k ≤ 70368744177664) :
    Calls Tryd.prog 55 #[v, .int .u64 n, .int .i64 s] w fun e w' => ∃ v', e = .returned v' ∧ w'.ownsRow B 5 1 v' (k + s) (xs ++ (be n s).map by8) ∧ Below B w w' := by
  obtain ⟨i0, hi, hz0, hz1, hz2⟩ := info_parts Tryd.infoU8
  go_enter Tryd.func55, Tryd.ntmps55
  go_wp2
  go_loopw [0, 7] (fun u i wr => ∃ (m : Nat) (pre : List UInt8), m ≤ s ∧ i = .int .i64 ((m : Int) - 1) ∧ pre ++ be n m = be n s ∧ pre.length + m = s ∧ wr.ownsRow B 5 1 u (k + pre.length) (xs ++ pre.map by8) ∧ Below B w wr) (fun _ i _ => (intOf i + 1).toNat)
  case atStart => exact ⟨s, [], Nat.le_refl _, rfl, rfl, by simp, by simpa using hown, Below.refl _ _⟩
  case round =>
    obtain ⟨m, pre, hm, rfl, hpre, hlen, hownr, hbel⟩ := hrel
    have hsz := hbel.size
    rcases m with _ | m
    · go_wp2
      go_ret
      refine ⟨_, rfl, ?_, hbel⟩
      have e1 : pre.length = s := by simpa using hlen
      have e2 : pre = be n s := by simpa [be] using hpre
      rw [e1, e2] at hownr
      exact hownr
    · have HP := hid hpre
      have HL := hid hlen
      clear hpre hlen
      have hb8 := hid (by8_shr n m)
      go_wp2_with (first
        | (at_builtin; refine wpList_append_own _ rfl _ _ 28 rfl B 5 i0 (.int .u8 0) 1 1 Tryd.underlying28 hi hz0 hz1 hz2 rfl (by decide) _ _ _ rfl (hownr.alloc _) ⟨wr.heap.size, 0, none⟩ 1 1 [.int .u8 ((n : Int) / 2 ^ (8 * m) % 256)] rfl rfl ?c1 ?c2 ?c3 ?c4 ?c5 ?_)
        | go_in)
      case c1 =>
        intro j u hj
        match j, hj with
        | 0, hj => simp at hj; subst hj; simp [Addr.add]
      case c2 => intro u hu; simp at hu; subst hu; rfl
      case c3 => have := HL.out; unfold maxLen; omega
      case c4 => have := HL.out; omega
      case c5 => simp; omega
      · intro v' w1 hown' hgrow _
        rw [hb8.out] at hown'
        have hb2 : Below B w w1 := (hbel.alloc (by omega) _).grown hgrow (by simp; omega) (fun q hq => (hownr.lt q hq).1)
        go_wp2
        go_roundw
        case rel =>
          refine ⟨m, pre ++ [UInt8.ofNat (n / 256 ^ m)], by omega, by go_num, by have := HP.out; rw [← this]; simp [be], by have := HL.out; simp; omega, ?_, hb2⟩
          have e : k + (pre ++ [UInt8.ofNat (n / 256 ^ m)]).length = k + pre.length + 1 := by simp; omega
          rw [e]
          simpa using hown'
        case measure => simp [intOf]

/-- The same, where the arguments are typed otherwise. -/
theorem high_at (B : Nat) (v : Value) (k : Nat) (xs : List Value) (nn si : Int) (n s : Nat) (w : World) (hnn : nn = (n : Int)) (hsi : si = (s : Int)) (hB : B ≤ w.heap.size)
    (hown : w.ownsRow B 5 1 v k xs) (hn : n < 18446744073709551616) (hs : s ≤ 8) (hk : k ≤ 70368744177664) :
    Calls Tryd.prog 55 #[v, .int .u64 nn, .int .i64 si] w fun e w' => ∃ v', e = .returned v' ∧ w'.ownsRow B 5 1 v' (k + s) (xs ++ (be n s).map by8) ∧ Below B w w' := by
  subst hnn hsi
  exact high_any B v k xs n s w hB hown hn hs hk
end Go.Proofs.YthkeofinamedfaaDoor
