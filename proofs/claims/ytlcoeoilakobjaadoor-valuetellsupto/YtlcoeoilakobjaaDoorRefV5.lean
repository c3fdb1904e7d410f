/- The document's own Literal. -/
import Derived.Test.YtlcoeoilakobjaaDoorRefV4
import Derived.Lib.Strings
namespace Go.Proofs.YtlcoeoilakobjaaDoor
open Go.RowKit
set_option linter.unusedVariables false
set_option linter.unusedSimpArgs false
set_option maxRecDepth 20000

theorem dbl_take (s : List UInt8) (k : Nat) (h : k < s.length) : dbl (s.take (k + 1)) = dbl (s.take k) ++ (if s[k] = 39 then [39, 39] else [s[k]]) := by
  rw [List.take_succ_eq_append_getElem h, dbl_append]
  simp [dbl]

theorem dbl_take_le (s : List UInt8) (k : Nat) : (dbl (s.take k)).length ≤ 2 * s.length := by
  have := dbl_le (s.take k)
  simp at this
  omega

set_option maxHeartbeats 1000000 in
set_option maxRecDepth 100000 in
theorem dliteral_any (k n : Int) (s : List UInt8) (w : World) (h0 : -9223372036854775808 ≤ n) (h1 : n ≤ 9223372036854775807) (hs : s.length ≤ 1048576) :
    Calls Tryd.prog 15 #[.agg #[.int .i64 k, .int .i64 n, .string (str8 s)]] w fun e w' => e = .returned (.string (str8 (litV ⟨k, n, s⟩))) ∧ Below w.heap.size w w' := by
  obtain ⟨W, hW, hbW, hzW, hcW⟩ := box3 w (.int .i64 k) (.int .i64 n) (.string (str8 s)) 23
  have c0 := hcW W (Below.refl _ _)
  have HI := hid (number_any n W h0 h1)
  have HB := hid hbW
  clear hcW hbW
  by_cases hk1 : k = 1
  · have hd : litV ⟨k, n, s⟩ = Lib.itoa n := by rw [litV, if_pos hk1]
    rw [hd]
    clear hd
    subst hk1
    go_enter Tryd.func15, Tryd.ntmps15
    go_wp2_with fail
    refine HI.out.mono ?_
    rintro e w1 ⟨rfl, hb1⟩
    go_wp2
    go_ret
    exact ⟨rfl, HB.out.trans (hb1.mono HB.out.size)⟩
  · have hk1' : (k == 1) = false := by simpa using hk1
    by_cases hk2 : k = 2
    · have hd : litV ⟨k, n, s⟩ = [39] ++ (dbl s ++ [39]) := by rw [litV, if_neg hk1, if_pos hk2]
      rw [hd]
      clear hd HI
      subst hk2
      have hsz : (str8 s).size = s.length := rfl
      have HSZ := hid hsz
      go_enter Tryd.func15, Tryd.ntmps15
      go_wp2_with fail
      go_loopw [3, 4] (fun u i wr => ∃ (j : Nat), j ≤ s.length ∧ i = .int .i64 j ∧ u = .string (str8 (39 :: dbl (s.take j))) ∧ wr = W) (fun _ i _ => s.length - (intOf i).toNat)
      case atStart => exact ⟨0, Nat.zero_le _, rfl, rfl, rfl⟩
      case round =>
        obtain ⟨j, hj, rfl, rfl, rfl⟩ := hrel
        have hdl := dbl_take_le s j
        by_cases hlt : j < s.length
        · have hlt' : ((j : Int) < ((str8 s).size : Int)) := by rw [HSZ.out]; omega
          have hsl : ∀ w, (Instr.slice 9 (.string (str8 s)) (some (.int .i64 (j : Int))) (some (.int .i64 ((j : Int) + 1))) none).run Tryd.prog w = .ok (.string (str8 [s[j]])) w := fun w => by
            rw [run_slice_string w 9 (str8 s) .i64 .i64 _ _ Tryd.underlying9 (by omega) (by omega) (by rw [HSZ.out]; omega)]
            refine congrArg (fun x => Result.ok (Value.string x) w) ?_
            apply ByteArray.ext
            apply Array.ext'
            rw [show ((j : Int)).toNat = j by omega, show ((j : Int) + 1).toNat = j + 1 by omega, Lib.extract_data]
            show (s.drop j).take (j + 1 - j) = [s[j]]
            rw [List.drop_eq_getElem_cons hlt, show j + 1 - j = 1 by omega]
            rfl
          have hix : ∀ w, (Instr.index 9 (.string (str8 s)) (.int .i64 (j : Int))).run Tryd.prog w = .ok (.int .u8 ((s[j]).toNat : Int)) w := fun w => by
            rw [run_index_string w 9 (str8 s) .i64 _ Tryd.underlying9, dif_pos ⟨by omega, hlt'⟩]
            rfl
          have hdt := dbl_take s j hlt
          obtain ⟨c, hc⟩ : ∃ c, s[j] = c := ⟨_, rfl⟩
          rw [hc] at hsl hix hdt
          obtain ⟨D, hD⟩ : ∃ D, dbl (s.take j) = D := ⟨_, rfl⟩
          rw [hD] at hdl hdt ⊢
          clear hc hD
          by_cases h39 : c = 39
          · subst h39
            rw [if_pos rfl] at hdt
            have HDT := hid hdt
            have a1 : ∀ w, (Op.stringOp .add (str8 (39 :: D)) ⟨#[39]⟩).run Tryd.prog w = .ok (.string (str8 (39 :: (D ++ [39])))) w := fun w => by
              rw [run_string_add_sum w _ _ (by rw [str8_size]; show D.length + 1 + 1 ≤ _; omega)]
              exact congrArg (fun x => Result.ok (Value.string x) w) (str8_add (39 :: D) [39])
            have a2 : ∀ w, (Op.stringOp .add (str8 (39 :: (D ++ [39]))) (str8 [39])).run Tryd.prog w = .ok (.string (str8 (39 :: (D ++ [39, 39])))) w := fun w => by
              rw [run_string_add_sum w _ _ (by rw [str8_size, str8_size]; simp; omega), str8_add]
              simp
            clear hdt hdl
            go_wp2
            go_roundw
            case rel => exact ⟨j + 1, by omega, by go_num, by rw [HDT.out], by trivial⟩
            case measure => simp [intOf]; omega
          · rw [if_neg h39] at hdt
            have HDT := hid hdt
            have hc39 := toNat_ne c 39 h39
            simp only [show ((39 : UInt8).toNat : Int) = 39 from rfl] at hc39
            have a2 : ∀ w, (Op.stringOp .add (str8 (39 :: D)) (str8 [c])).run Tryd.prog w = .ok (.string (str8 (39 :: (D ++ [c])))) w := fun w => by
              rw [run_string_add_sum w _ _ (by rw [str8_size, str8_size]; simp; omega), str8_add]
              simp
            clear hdt hdl
            go_wp2
            go_roundw
            case rel => exact ⟨j + 1, by omega, by go_num, by rw [HDT.out], by trivial⟩
            case measure => simp [intOf]; omega
        · have hlt' : ¬ ((j : Int) < ((str8 s).size : Int)) := by rw [HSZ.out]; omega
          have HT : Hid (s.take j = s) := hid (List.take_of_length_le (by omega))
          rw [HT.out] at hdl ⊢
          obtain ⟨D, hD⟩ : ∃ D, dbl s = D := ⟨_, rfl⟩
          rw [hD] at hdl ⊢
          have HD := hid hD
          have a1 : ∀ w, (Op.stringOp .add (str8 (39 :: D)) ⟨#[39]⟩).run Tryd.prog w = .ok (.string (str8 (39 :: (D ++ [39])))) w := fun w => by
            rw [run_string_add_sum w _ _ (by rw [str8_size]; show D.length + 1 + 1 ≤ _; omega)]
            exact congrArg (fun x => Result.ok (Value.string x) w) (str8_add (39 :: D) [39])
          clear hD hdl
          go_wp2
          go_ret
          exact ⟨by rw [HD.out]; rfl, HB.out⟩
    · have hk2' : (k == 2) = false := by simpa using hk2
      have hk3' : (k != 2) = true := by simpa using hk2
      have hd : litV ⟨k, n, s⟩ = [78, 85, 76, 76] := by rw [litV, if_neg hk1, if_neg hk2]
      rw [hd]
      clear hd
      go_enter Tryd.func15, Tryd.ntmps15
      go_wp2
      go_ret
      exact ⟨rfl, HB.out⟩
end Go.Proofs.YtlcoeoilakobjaaDoor
