/- Contracts of plain.Blob and of the document's own four, count, Blob, TakeBlob. -/
import Derived.Test.YtknanockidellaaCodec
import Derived.Deep.QuietTactic
import Derived.BigQuiet
namespace Go.Proofs.Ytknanockidellaa
open Go.RowKit
set_option linter.unusedVariables false

/-- Blob's answer: the error, the bytes. -/
def blobOf (p : List UInt8) : Nat × List UInt8 := if 65536 < p.length then (2, []) else (0, blob p)

set_option maxHeartbeats 1000000 in
theorem blob_any (B : Nat) (v : Value) (bs : List UInt8) (w : World) (hB : B ≤ w.heap.size) (hsh : Shows B w v bs) :
    Calls Try.prog 25 #[v] w fun e w' => ∃ v', e = .returned (.tuple #[v', .int .i64 (blobOf bs).1]) ∧ w'.ownsRow w.heap.size 5 1 v' (blobOf bs).2.length ((blobOf bs).2.map by8) ∧ Below w.heap.size w w' := by
  obtain ⟨i0, hi, hz0, hz1, hz2⟩ := info_parts Try.infoU8
  have hsh0 := hsh
  obtain ⟨a, c, rfl, h1, h2, hn, h3⟩ := hsh
  unfold maxLen at h2
  by_cases hl : 65536 < bs.length
  · have HT := hid (show blobOf bs = (2, []) by rw [blobOf, if_pos hl])
    go_enter Try.func25, Try.ntmps25
    go_wp2
    go_ret2
    exact ⟨_, by rw [HT.out]; rfl, by rw [HT.out]; exact World.ownsRow_nil _ _ _ _, Below.refl _ _⟩
  · have HT := hid (show blobOf bs = (0, blob bs) by rw [blobOf, if_neg hl])
    go_enter Try.func25, Try.ntmps25
    go_wp2_with (first
      | (at_make; refine wpList_make_own _ rfl _ _ 22 rfl w.heap.size 5 i0 (.int .u8 0) 1 Try.underlying22 hi hz0 hz1 _ _ _ (4 + bs.length) rfl rfl (by omega) ?b2 ?b3 (Nat.le_refl _) ?_)
      | fail)
    case b2 => first | omega | (rw [hz2]; omega)
    case b3 => unfold maxLen; omega
    intro w1 hown1 hgr1
    have hb1 : Below w.heap.size w w1 := (Below.refl _ _).grown hgr1 (Nat.le_refl _) (fun x hx => by cases hx)
    have hsz1 := hb1.size
    go_wp2_with fail
    refine (appendBlob_any w.heap.size _ 0 [] _ bs w1 hsz1 hown1 ((hsh0.mono hB).below hb1) (by omega)).mono ?_
    rintro e w2 ⟨v2, rfl, hown2, hbel2⟩
    simp only [Nat.zero_add, List.nil_append] at hown2
    have hb2 := hb1.trans hbel2
    clear hgr1 hown1 hbel2 hb1
    go_wp2
    go_ret2
    exact ⟨_, by rw [HT.out]; rfl, by rw [HT.out]; exact hown2, hb2⟩

theorem be4 (n : Nat) : be n 4 = [UInt8.ofNat (n / 16777216), UInt8.ofNat (n / 65536), UInt8.ofNat (n / 256), UInt8.ofNat n] := by
  simp [be]

theorem by8_mod (n : Nat) : by8 (UInt8.ofNat n) = .int .u8 ((n : Int) % 256) := by
  rw [by8, UInt8.toNat_ofNat']
  refine congrArg (Value.int .u8) ?_
  omega

set_option maxHeartbeats 1000000 in
theorem four_any (n : Nat) (w : World) (hn : n ≤ 65536) :
    Calls Try.prog 39 #[.int .i64 n] w fun e w' => ∃ v', e = .returned v' ∧ w'.ownsRow w.heap.size 5 1 v' 4 ((be n 4).map by8) ∧ Below w.heap.size w w' := by
  go_enter Try.func39, Try.ntmps39
  have e : [Value.int .u8 ((n : Int) / 16777216), .int .u8 ((n : Int) / 65536), .int .u8 ((n : Int) / 256 % 256), .int .u8 ((n : Int) % 256)] = (be n 4).map by8 := by
    rw [be4, List.map_cons, List.map_cons, List.map_cons, List.map_cons, List.map_nil, by8_mod, by8_mod, by8_mod, by8_mod]
    rw [show (n : Int) / 16777216 = ((n / 16777216 : Nat) : Int) % 256 from by omega, show (n : Int) / 65536 = ((n / 65536 : Nat) : Int) % 256 from by omega, show (n : Int) / 256 = ((n / 256 : Nat) : Int) from by omega]
  have HE := hid e
  clear e
  go_wp2
  go_ret
  refine ⟨_, rfl, ?_, (Below.refl _ _).alloc (Nat.le_refl _) _⟩
  rw [← HE.out]
  exact World.ownsRow_lit w _ 4 (Nat.le_refl _) (by unfold maxLen; omega) rfl

theorem num4 (a b c d : UInt8) : num [a, b, c, d] = a.toNat * 16777216 + b.toNat * 65536 + c.toNat * 256 + d.toNat := by
  simp [num]
  omega

set_option maxHeartbeats 1000000 in
theorem count_any (B : Nat) (v : Value) (bs : List UInt8) (w : World) (hsh : Shows B w v bs) (h4 : 4 ≤ bs.length) :
    Calls Try.prog 40 #[v] w fun e w' => e = .returned (.int .i64 (num (bs.take 4))) ∧ ∃ nq, w' = w.drewN nq := by
  obtain ⟨a, c, rfl, h1, h2, hn, h3⟩ := hsh
  obtain ⟨b, off, rfl, hbB, hc⟩ := h3 (by intro e; simp [e] at h4)
  have c0 := hc 0 (by omega)
  have c1 := hc 1 (by omega)
  have c2 := hc 2 (by omega)
  have c3 := hc 3 (by omega)
  rw [Nat.add_zero] at c0
  have e : bs.take 4 = [bs[0]?.getD 0, bs[1]?.getD 0, bs[2]?.getD 0, bs[3]?.getD 0] := by
    match bs, h4 with
    | x :: y :: z :: u :: r, _ => simp
  have HE := hid (show num (bs.take 4) = _ by rw [e, num4])
  have b0 := (bs[0]?.getD 0).toNat_lt
  have b1 := (bs[1]?.getD 0).toNat_lt
  have b2 := (bs[2]?.getD 0).toNat_lt
  have b3 := (bs[3]?.getD 0).toNat_lt
  clear hc h3 hn e
  generalize num (bs.take 4) = Q at *
  generalize (bs[0]?.getD 0).toNat = x at *
  generalize (bs[1]?.getD 0).toNat = y at *
  generalize (bs[2]?.getD 0).toNat = z at *
  generalize (bs[3]?.getD 0).toNat = u at *
  have l0 : (0 : Int) < (bs.length : Int) := by omega
  have l1 : (1 : Int) < (bs.length : Int) := by omega
  have l2 : (2 : Int) < (bs.length : Int) := by omega
  have l3 : (3 : Int) < (bs.length : Int) := by omega
  go_enter Try.func40, Try.ntmps40
  go_wp2_with fail
  go_quiet (fail)
  go_wp2
  go_ret
  refine ⟨?_, nq, rfl⟩
  rw [HE.out]
  refine congrArg (fun x : Int => Ending.returned (Value.int .i64 x)) ?_
  omega

set_option maxHeartbeats 1000000 in
theorem refBlob_any (B : Nat) (v : Value) (bs : List UInt8) (w : World) (hB : B ≤ w.heap.size) (hsh : Shows B w v bs) :
    Calls Try.prog 27 #[v] w fun e w' => ∃ v', e = .returned (.tuple #[v', .int .i64 (blobOf bs).1]) ∧ w'.ownsRow w.heap.size 5 1 v' (blobOf bs).2.length ((blobOf bs).2.map by8) ∧ Below w.heap.size w w' := by
  obtain ⟨i0, hi, hz0, hz1, hz2⟩ := info_parts Try.infoU8
  have hsh0 := hsh
  obtain ⟨a, c, rfl, h1, h2, hn, h3⟩ := hsh
  unfold maxLen at h2
  by_cases hl : 65536 < bs.length
  · have HT := hid (show blobOf bs = (2, []) by rw [blobOf, if_pos hl])
    go_enter Try.func27, Try.ntmps27
    go_wp2
    go_ret2
    exact ⟨_, by rw [HT.out]; rfl, by rw [HT.out]; exact World.ownsRow_nil _ _ _ _, Below.refl _ _⟩
  · have HT := hid (show blobOf bs = (0, blob bs) by rw [blobOf, if_neg hl])
    go_enter Try.func27, Try.ntmps27
    go_wp2_with fail
    refine (four_any bs.length w (by omega)).mono ?_
    rintro e w1 ⟨v1, rfl, hown1, hb1⟩
    have hsz1 := hb1.size
    have hsh1 := (hsh0.mono hB).below hb1
    go_wp2_with (first | (at_builtin; refine wpList_append_shows _ rfl _ _ 22 rfl w.heap.size 5 i0 Try.underlying22 hi hz0 hz1 hz2 _ _ _ rfl hown1 w.heap.size _ bs rfl hsh1 ?_ ?_ ?_) | fail)
    · omega
    · omega
    · intro v2 w2 hown2 hg2 _
      have hb2 := hb1.grown hg2 (by omega) (fun q hq => (hown1.lt q hq).1)
      clear hown1 hg2 hsh1
      go_wp2
      go_ret2
      refine ⟨_, by rw [HT.out]; rfl, ?_, hb2⟩
      rw [HT.out]
      show w2.ownsRow w.heap.size 5 1 v2 (blob bs).length ((blob bs).map by8)
      rw [blob_length]
      simpa [blob] using hown2

theorem Shows.drewN {B : Nat} {w : World} {v : Value} {bs : List UInt8} (h : Shows B w v bs) (n : Nat) : Shows B (w.drewN n) v bs := by
  obtain ⟨a, c, hv, h1, h2, hn, h3⟩ := h
  refine ⟨a, c, hv, h1, h2, hn, fun hne => ?_⟩
  obtain ⟨b, off, ha, hlt, hc⟩ := h3 hne
  exact ⟨b, off, ha, hlt, fun j hj => by rw [← hc j hj]; rfl⟩

theorem tcount_eq (bs : List UInt8) (most : Nat) (h : 4 ≤ bs.length) : tcount bs most = if most < num (bs.take 4) then (0, 2) else (num (bs.take 4), 0) := by
  rw [tcount, if_neg (by omega)]

set_option maxHeartbeats 2000000 in
theorem refTakeBlob_any (B : Nat) (v : Value) (bs : List UInt8) (w : World) (hsh : Shows B w v bs) (hB : B ≤ w.heap.size) :
    Calls Try.prog 28 #[v] w fun e w' => ∃ v', e = .returned (.tuple #[v', .int .i64 (tblob bs).2.2, .int .i64 (tblob bs).1]) ∧ ((tblob bs).1 = 0 → v' ≠ .slice none 0 0) ∧
      w'.ownsRow w.heap.size 5 1 v' (tblob bs).2.1.length ((tblob bs).2.1.map by8) ∧ Below w.heap.size w w' := by
  obtain ⟨i0, hi, hz0, hz1, hz2⟩ := info_parts Try.infoU8
  have hsh0 := hsh
  obtain ⟨a, c, rfl, h1, h2, hn, h3⟩ := hsh
  have h2' := h2
  unfold maxLen at h2
  by_cases h4 : bs.length < 4
  · have HT := hid (show tblob bs = (3, [], 0) by rw [tblob, tcount_short bs 65536 h4]; rfl)
    go_enter Try.func28, Try.ntmps28
    go_wp2
    go_ret3
    exact ⟨_, by rw [HT.out]; rfl, by rw [HT.out]; simp, by rw [HT.out]; exact World.ownsRow_nil _ _ _ _, Below.refl _ _⟩
  · obtain ⟨b, off, rfl, hbB, hc⟩ := h3 (by intro e; simp [e] at h4)
    have HC := hid (count_any B _ bs w hsh0 (by omega))
    have ht := tcount_eq bs 65536 (by omega)
    by_cases hm : 65536 < num (bs.take 4)
    · have HT := hid (show tblob bs = (2, [], 0) by rw [tblob, ht, if_pos hm]; rfl)
      clear ht
      generalize num (bs.take 4) = q at *
      go_enter Try.func28, Try.ntmps28
      go_wp2_with fail
      refine HC.out.mono ?_
      rintro e w1 ⟨rfl, nq, rfl⟩
      go_wp2
      go_ret3
      exact ⟨_, by rw [HT.out]; rfl, by rw [HT.out]; simp, by rw [HT.out]; exact World.ownsRow_nil _ _ _ _, below_drewN (Below.refl _ _) _⟩
    · rw [if_neg hm] at ht
      by_cases hlen : bs.length < 4 + num (bs.take 4)
      · have HT := hid (show tblob bs = (3, [], 0) by rw [tblob, ht]; simp [hlen])
        clear ht
        generalize num (bs.take 4) = q at *
        go_enter Try.func28, Try.ntmps28
        go_wp2_with fail
        refine HC.out.mono ?_
        rintro e w1 ⟨rfl, nq, rfl⟩
        go_wp2
        go_ret3
        exact ⟨_, by rw [HT.out]; rfl, by rw [HT.out]; simp, by rw [HT.out]; exact World.ownsRow_nil _ _ _ _, below_drewN (Below.refl _ _) _⟩
      · have HT := hid (show tblob bs = (0, (bs.drop 4).take (num (bs.take 4)), 4 + num (bs.take 4)) by rw [tblob, ht]; simp [hlen])
        clear ht
        generalize num (bs.take 4) = q at *
        have HQ := hid (show ((bs.drop 4).take q).length = q by simp; omega)
        by_cases hc4 : c = 4
        · have hq0 : q = 0 := by omega
          subst hq0
          subst hc4
          go_enter Try.func28, Try.ntmps28
          go_wp2_with fail
          refine HC.out.mono ?_
          rintro e w1 ⟨rfl, nq, rfl⟩
          have hmid := Shows.empty B ((w.drewN nq).alloc (.cells #[] 5)) ⟨b, off, none⟩ 0 (by unfold maxLen; omega)
          go_wp2_with (first | (at_builtin; refine wpList_append_shows _ rfl (.tmp 18) (.tmp 22) 22 rfl w.heap.size 5 i0 Try.underlying22 hi hz0 hz1 hz2 _ 0 [] rfl (World.ownsRow_made (w.drewN nq) #[] 0 (Nat.le_refl _) (by unfold maxLen; omega) rfl) B _ [] rfl hmid ?_ ?_ ?_) | fail)
          · simp
          · exact Nat.le_trans (Nat.le_refl _) (by show w.heap.size ≤ ((w.drewN nq).heap.push _).size; rw [Array.size_push]; exact Nat.le_succ _)
          · intro v2 w2 hown2 hg2 hnil
            have hb2 : Below w.heap.size w w2 := ((below_drewN (Below.refl _ _) nq).alloc (Nat.le_refl _) _).grown hg2 (by show w.heap.size ≤ ((w.drewN nq).heap.push _).size; rw [Array.size_push]; exact Nat.le_succ _) (fun k hk => by have hk' : some w.heap.size = some k := hk; cases hk'; exact Nat.le_refl _)
            have hne : v2 ≠ .slice none 0 0 := fun e => hnil e
            clear hg2 hnil
            go_wp2
            go_ret3
            exact ⟨_, by rw [HT.out]; rfl, fun _ => hne, by rw [HT.out]; exact hown2, hb2⟩
        · have hmid := hsh0.mid 4 q (by omega)
          have HM := hid hmid
          clear hmid
          go_enter Try.func28, Try.ntmps28
          go_wp2_with fail
          refine HC.out.mono ?_
          rintro e w1 ⟨rfl, nq, rfl⟩
          have hmid2 : Shows B ((w.drewN nq).alloc (.cells #[] 5)) (.slice (some ⟨b, off + 4, none⟩) (4 + q - 4) (c - 4)) ((bs.drop 4).take q) := by
            rw [Nat.add_sub_cancel_left]
            exact (HM.out.drewN nq).alloc hB _
          have HM2 := hid hmid2
          clear hmid2
          go_wp2_with (first | (at_builtin; refine wpList_append_shows _ rfl (.tmp 18) (.tmp 22) 22 rfl w.heap.size 5 i0 Try.underlying22 hi hz0 hz1 hz2 _ 0 [] rfl (World.ownsRow_made (w.drewN nq) #[] 0 (Nat.le_refl _) (by unfold maxLen; omega) rfl) B _ ((bs.drop 4).take q) rfl HM2.out ?_ ?_ ?_) | fail)
          · have := HQ.out; omega
          · exact Nat.le_trans (Nat.le_refl _) (by show w.heap.size ≤ ((w.drewN nq).heap.push _).size; rw [Array.size_push]; exact Nat.le_succ _)
          · intro v2 w2 hown2 hg2 hnil
            have hb2 : Below w.heap.size w w2 := ((below_drewN (Below.refl _ _) nq).alloc (Nat.le_refl _) _).grown hg2 (by show w.heap.size ≤ ((w.drewN nq).heap.push _).size; rw [Array.size_push]; exact Nat.le_succ _) (fun k hk => by have hk' : some w.heap.size = some k := hk; cases hk'; exact Nat.le_refl _)
            have hne : v2 ≠ .slice none 0 0 := fun e => by have := hnil e; simp at this
            clear hg2 hnil
            go_wp2
            go_ret3
            exact ⟨_, by rw [HT.out]; rfl, fun _ => hne, by rw [HT.out]; simpa using hown2, hb2⟩
end Go.Proofs.Ytknanockidellaa
