/- The document's own Row and TakeRow. -/
import Derived.Test.YtlcoeoilakobjaaDoorRefV2
import Derived.Test.YtlcoeoilakobjaaDoorOpenV
namespace Go.Proofs.YtlcoeoilakobjaaDoor
open Go.RowKit
set_option linter.unusedVariables false
set_option linter.unusedSimpArgs false
set_option maxRecDepth 20000

set_option maxHeartbeats 1000000 in
theorem dtakeRow_any (B0 : Nat) (v : Value) (bs : List UInt8) (w : World) (hB : B0 ≤ w.heap.size) (hsh : Shows B0 w v bs) (hl : bs.length ≤ 140737488351232) :
    Calls Tryd.prog 26 #[v] w fun e w' => ∃ v', e = .returned (.tuple #[v', .int .i64 (trV 8 bs).1]) ∧ w'.ownsRow w.heap.size 23 3 v' (trV 8 bs).2.length (vcs (trV 8 bs).2) ∧ Below w.heap.size w w' := by
  obtain ⟨i0, hi, hz0, hz1, hz2⟩ := info_parts Tryd.infoVal
  obtain ⟨a, c, rfl, h1, h2, hn, h3⟩ := id hsh
  unfold maxLen at h2
  have HSH := hid hsh
  clear h3 hn hsh
  go_enter Tryd.func26, Tryd.ntmps26
  go_wp2_with fail
  go_loopw [4, 5] (fun l i wr => ∃ (p : Nat) (acc : List Vl), p ≤ bs.length ∧ i = .int .i64 p ∧ acc.length ≤ 8 ∧ wr.ownsRow w.heap.size 23 3 l acc.length (vcs acc) ∧ Below w.heap.size w wr ∧ Hid (thenV acc (trV (8 - acc.length) (bs.drop p)) = trV 8 bs)) (fun _ i _ => bs.length - (intOf i).toNat)
  case atStart => exact ⟨0, [], Nat.zero_le _, rfl, by simp, World.ownsRow_nil _ _ _ _, Below.refl _ _, hid (thenV_nil _ (trV_errs _ _))⟩
  case round =>
    obtain ⟨p, acc, hp, rfl, hacc, hown, hbel, hF⟩ := hrel
    have hszr := hbel.size
    by_cases hlt : p < bs.length
    · have hne : bs.drop p ≠ [] := fun e => by have := congrArg List.length e; simp at this; omega
      obtain ⟨va, vcap, hvf⟩ : ∃ va vcap, u4 = .slice va acc.length vcap := by
        rcases hown.2 with ⟨rfl, hn⟩ | ⟨g, cap, cur, rfl, _⟩
        · exact ⟨_, _, by rw [hn]⟩
        · exact ⟨_, _, rfl⟩
      subst hvf
      by_cases h8 : acc.length = 8
      · have HF : Hid (trV 8 bs = (2, [])) := hid (by rw [← hF.out, h8, trV_full hne]; rfl)
        have h8' : ((acc.length : Int) == 8) = true := by rw [beq_iff_eq]; omega
        clear hF h8
        go_wp2
        go_ret2
        exact ⟨_, by rw [HF.out]; rfl, by rw [HF.out]; exact World.ownsRow_nil _ _ _ _, hbel⟩
      · have h8' : ((acc.length : Int) == 8) = false := by rw [beq_eq_false_iff_ne]; omega
        have hsub : 8 - acc.length = (8 - acc.length - 1) + 1 := by omega
        have hbne : bs ≠ [] := fun e => by rw [e] at hlt; simp at hlt
        obtain ⟨V, hV, hVs⟩ := from_any (p := p) (HSH.out.below (hbel.mono hB)) hbne hp
        have HTK := hid (dtakeKey_any B0 V (bs.drop p) wr (by omega) (hVs wr (HSH.out.below (hbel.mono hB))) (by simp; omega))
        have hu := tkV_used (bs.drop p)
        rw [List.length_drop] at hu
        have HF := hid (show thenV acc (trV (8 - acc.length - 1 + 1) (bs.drop p)) = trV 8 bs by rw [← hsub]; exact hF.out)
        clear hVs hsub hF hbne
        by_cases he : (tkV (bs.drop p)).1 = 0
        · have HN : Hid (thenV (acc ++ [(tkV (bs.drop p)).2.1]) (trV (8 - acc.length - 1) (bs.drop (p + (tkV (bs.drop p)).2.2))) = trV 8 bs) := hid (by
            rw [← HF.out, thenV_next _ _ _ hne he, List.drop_drop])
          clear HF hne
          have hu3 := hu.2.2 he
          generalize tkV (bs.drop p) = R at *
          obtain ⟨er, ⟨xk, xn, xt⟩, used⟩ := R
          dsimp only at he hu hu3 HN HTK
          subst he
          go_wp2_with fail
          refine HTK.out.mono ?_
          rintro e w2 ⟨rfl, hb2⟩
          have hsz2 := hb2.size
          have hown2 := owns_on hown hb2
          have hbel2 := hbel.trans (hb2.mono hszr)
          clear HTK hb2 hown hu
          have hnew := three_at (w2.alloc (.cells #[.int .i64 xk, .int .i64 xn, .string (str8 xt)] 23)) (w2.heap.size + 1) (by simp) (.int .i64 xk) (.int .i64 xn) (.string (str8 xt)) 23
          have hone : ∀ u ∈ [Value.int .i64 xk, .int .i64 xn, .string (str8 xt)], u.oneCell' = true := by intro u hu; simp at hu; rcases hu with rfl | rfl | rfl <;> rfl
          have hown22 := (hown2.alloc (.cells #[.int .i64 xk, .int .i64 xn, .string (str8 xt)] 23)).alloc (.cells #[.int .i64 xk, .int .i64 xn, .string (str8 xt)] 23)
          have hbel22 := (hbel2.alloc hbel2.size (.cells #[.int .i64 xk, .int .i64 xn, .string (str8 xt)] 23)).alloc (Nat.le_trans hbel2.size (by simp)) (.cells #[.int .i64 xk, .int .i64 xn, .string (str8 xt)] 23)
          have HL := hid (fun q hq => (hown22.lt q hq).1 : ∀ q, (Value.slice va acc.length vcap).ownBlock = some q → w.heap.size ≤ q)
          have HB22 := hid hbel22
          have hszA : w.heap.size ≤ ((w2.alloc (.cells #[.int .i64 xk, .int .i64 xn, .string (str8 xt)] 23)).alloc (.cells #[.int .i64 xk, .int .i64 xn, .string (str8 xt)] 23)).heap.size := hbel22.size
          have HSA := hid hszA
          clear hszA hbel22
          go_wp2_with (first
            | (at_builtin; refine wpList_append_own _ rfl (.tmp 27) (.tmp 29) 40 rfl w.heap.size 23 i0 (.agg #[.int .i64 0, .int .i64 0, .string ⟨#[]⟩]) 3 32 Tryd.underlying40 hi hz0 hz1 hz2 rfl (by decide) _ _ _ rfl hown22 ⟨w2.heap.size + 1, 0, none⟩ 1 1 [.int .i64 xk, .int .i64 xn, .string (str8 xt)] rfl rfl hnew hone (by unfold maxLen; omega) (by omega) HSA.out ?_; intro v3 w3 hown3 hg3 _)
            | fail)
          go_roundw
          case rel =>
            refine ⟨p + used, acc ++ [⟨xk, xn, xt⟩], by omega, by go_num, by simp; omega, ?_, HB22.out.grown hg3 HSA.out HL.out, ?_⟩
            · rw [List.length_append, show vcs (acc ++ [⟨xk, xn, xt⟩]) = vcs acc ++ [.int .i64 xk, .int .i64 xn, .string (str8 xt)] from by simp [vcs, vc]]
              exact hown3
            · rw [List.length_append, show 8 - (acc.length + [(⟨xk, xn, xt⟩ : Vl)].length) = 8 - acc.length - 1 from by simp; omega]
              exact HN
          case measure => simp [intOf]; omega
        · have her : (((tkV (bs.drop p)).1 : Int) == 0) = false := by rw [beq_eq_false_iff_ne]; omega
          have HN : Hid (trV 8 bs = ((tkV (bs.drop p)).1, [])) := hid (by rw [← HF.out, thenV_err _ _ _ hne he])
          clear HF hne he hu
          generalize tkV (bs.drop p) = R at *
          obtain ⟨er, ⟨xk, xn, xt⟩, used⟩ := R
          dsimp only at her HN HTK
          go_wp2_with fail
          refine HTK.out.mono ?_
          rintro e w2 ⟨rfl, hb2⟩
          have hbel2 := hbel.trans (hb2.mono hszr)
          have hb3 := hbel2.alloc hbel2.size (.cells #[.int .i64 xk, .int .i64 xn, .string (str8 xt)] 23)
          have HB3 := hid hb3
          clear HTK hb2 hown hb3 hbel2
          go_wp2
          go_ret2
          exact ⟨_, by rw [HN.out]; rfl, by rw [HN.out]; exact World.ownsRow_nil _ _ _ _, HB3.out⟩
    · have hd : bs.drop p = [] := List.drop_eq_nil_of_le (by omega)
      have HN : Hid (trV 8 bs = (0, acc)) := hid (by rw [← hF.out, hd, trV_nil]; simp [thenV])
      clear hF hd
      go_wp2
      go_ret2
      exact ⟨_, by rw [HN.out]; rfl, by rw [HN.out]; exact hown, hbel⟩

set_option maxHeartbeats 1000000 in
theorem drow_any (B : Nat) (v : Value) (xs : List Vl) (w : World) (hB : B ≤ w.heap.size) (hV : Vals B w v xs) (hS : ∀ x ∈ xs, OkV x) :
    Calls Tryd.prog 25 #[v] w fun e w' => ∃ v', e = .returned (.tuple #[v', .int .i64 (rowV xs).1]) ∧ w'.ownsRow w.heap.size 5 1 v' (rowV xs).2.length ((rowV xs).2.map by8) ∧ Below w.heap.size w w' := by
  obtain ⟨i0, hi, hz0, hz1, hz2⟩ := info_parts Tryd.infoU8
  obtain ⟨a, c, rfl, h1, h2, hn, h3⟩ := id hV
  unfold maxLen at h2
  by_cases h8 : 8 < xs.length
  · have hr : rowV xs = (2, []) := if_pos h8
    rw [hr]
    have h8' : (8 : Int) < (xs.length : Int) := by omega
    go_enter Tryd.func25, Tryd.ntmps25
    go_wp2
    go_ret2
    exact ⟨_, rfl, World.ownsRow_nil _ _ _ _, Below.refl _ _⟩
  · have h8' : ¬ ((8 : Int) < (xs.length : Int)) := by omega
    have hr : rowV xs = if rowE xs ≠ 0 then (rowE xs, []) else (0, rowK xs) := if_neg h8
    have HR := hid hr
    have HV := hid hV
    have HS := hid hS
    clear hr hV h3 hn hS
    go_enter Tryd.func25, Tryd.ntmps25
    go_wp2_with fail
    go_loopw [4, 5] (fun l i wr => ∃ (k : Nat), k ≤ xs.length ∧ i = .int .i64 k ∧ (rowK (xs.take k)).length ≤ 100 * k ∧ wr.ownsRow w.heap.size 5 1 l (rowK (xs.take k)).length ((rowK (xs.take k)).map by8) ∧ Below w.heap.size w wr ∧ Hid (rowE xs = rowE (xs.drop k))) (fun _ i _ => xs.length - (intOf i).toNat)
    case atStart => exact ⟨0, Nat.zero_le _, rfl, by simp [rowK], by simpa [rowK] using World.ownsRow_nil _ _ _ _, Below.refl _ _, hid rfl⟩
    case round =>
      obtain ⟨k, hk, rfl, hkl, hown, hbel, hE⟩ := hrel
      have hszr := hbel.size
      by_cases hlt : k < xs.length
      · obtain ⟨x, hx⟩ : ∃ x, xs[k]? = some x := ⟨_, List.getElem?_eq_getElem hlt⟩
        have hvr := HV.out.below (hbel.mono hB)
        obtain ⟨a', c', hv', _, _, _, h3⟩ := hvr
        simp only [Value.slice.injEq] at hv'
        obtain ⟨rfl, _, rfl⟩ := hv'
        obtain ⟨b, off, rfl, hbB, hcell⟩ := h3 (by intro e; rw [e] at hlt; simp at hlt)
        obtain ⟨c0, c1, c2⟩ := hcell k x hx
        have hxs := HS.out x (List.mem_of_getElem? hx)
        have hd := drop_cons xs k x hx
        have ht := take_snoc xs k x hx
        rw [hd] at hE
        have ht2 : rowK (xs.take (k + 1)) = rowK (xs.take k) ++ keyV x := by rw [ht]; simp [rowK]
        have HT := hid ht2
        clear h3 hcell hd ht ht2 hx
        obtain ⟨xk, xn, xt⟩ := x
        unfold OkV at hxs
        dsimp only at c0 c1 c2 hxs
        have HKY := hid (dkey_any xk xn xt wr hxs.2.1.1 hxs.2.1.2 (by omega))
        clear hxs
        by_cases hr : rightV ⟨xk, xn, xt⟩ = 0
        · have hkl2 := keyV_le hr
          have hko : keyOfV ⟨xk, xn, xt⟩ = keyV ⟨xk, xn, xt⟩ := if_pos hr
          have hE2 : rowE xs = rowE (xs.drop (k + 1)) := by rw [hE.out, rowE, if_neg (by simpa using hr)]
          have HE2 := hid hE2
          rw [hr, hko] at HKY
          clear hE hE2 hr hko
          go_wp2_with fail
          refine HKY.out.mono ?_
          rintro e w2 ⟨v2, rfl, hown2, hb2⟩
          have hsz2 := hb2.size
          have hownA := owns_on hown hb2
          have hsh2 := (shows_of_owns hown2).2
          have HB2 := hid (hbel.trans (hb2.mono hszr))
          have HL := hid (fun q hq => (hownA.lt q hq).1 : ∀ q, u4.ownBlock = some q → w.heap.size ≤ q)
          clear HKY hb2 hown hown2
          generalize keyV ⟨xk, xn, xt⟩ = KX at *
          go_wp2_with (first | (at_builtin; refine wpList_append_shows _ rfl _ _ 30 rfl w.heap.size 5 i0 Tryd.underlying30 hi hz0 hz1 hz2 _ _ _ rfl hownA w2.heap.size _ KX rfl hsh2 ?_ ?_ ?_) | go_in)
          · omega
          · omega
          · intro v' w4 hown4 hg4 _
            have HB4 := hid (HB2.out.grown hg4 (by omega) HL.out)
            have HO4 := hid hown4
            clear hown4 hg4
            go_wp2
            go_roundw
            case rel =>
              refine ⟨k + 1, by omega, by go_num, by rw [HT.out, List.length_append]; omega, ?_, HB4.out, HE2⟩
              rw [HT.out, List.length_append, List.map_append]
              exact HO4.out
            case measure => simp [intOf]; omega
        · have hr' : (((rightV ⟨xk, xn, xt⟩ : Nat) : Int) == 0) = false := by rw [beq_eq_false_iff_ne]; omega
          have hE2 : rowE xs = rightV ⟨xk, xn, xt⟩ := by rw [hE.out, rowE, if_pos hr]
          have HF : Hid (rowV xs = (rightV ⟨xk, xn, xt⟩, [])) := hid (by rw [HR.out, hE2, if_pos hr])
          clear hE hE2 hr
          generalize rightV ⟨xk, xn, xt⟩ = R at *
          go_wp2_with fail
          refine HKY.out.mono ?_
          rintro e w2 ⟨v2, rfl, hown2, hb2⟩
          have HB2 := hid (hbel.trans (hb2.mono hszr))
          clear HKY hb2 hown2
          go_wp2
          go_ret2
          exact ⟨_, by rw [HF.out]; rfl, by rw [HF.out]; exact World.ownsRow_nil _ _ _ _, HB2.out⟩
      · have hkn : k = xs.length := by omega
        have HE : Hid (rowV xs = (0, rowK xs)) := hid (by rw [HR.out, hE.out, hkn, List.drop_length]; rfl)
        have HT : Hid (xs.take k = xs) := hid (by rw [hkn, List.take_length])
        clear hE hkn
        go_wp2
        go_ret2
        refine ⟨_, by rw [HE.out]; rfl, ?_, hbel⟩
        rw [HE.out]
        rw [HT.out] at hown
        exact hown
end Go.Proofs.YtlcoeoilakobjaaDoor
