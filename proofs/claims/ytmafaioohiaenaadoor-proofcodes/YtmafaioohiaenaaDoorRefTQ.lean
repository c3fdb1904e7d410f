/- Contract of the document's own TakeRow. -/
import Derived.Test.YtmafaioohiaenaaDoorRefD
namespace Go.Proofs.YtmafaioohiaenaaDoor
open Go.RowKit
set_option linter.unusedVariables false
set_option maxRecDepth 20000

set_option maxHeartbeats 1000000 in
theorem refTakeRow_loop (B0 : Nat) (b off c : Nat) (bs : List UInt8) (w : World) (hsh : Shows B0 w (.slice (some ⟨b, off, none⟩) bs.length c) bs) (hB : B0 ≤ w.heap.size) (h4 : 4 ≤ bs.length) (q : Nat) (hq : q ≤ 4096) (hc : bs.length ≤ c) (hm : c ≤ maxLen)
    (htc : Calls Tryd.prog 88 #[.slice (some ⟨b, off, none⟩) bs.length c] w fun e w' => e = .returned (.int .i64 q) ∧ ∃ nq, w' = w.drewN nq) :
    Calls Tryd.prog 61 #[.slice (some ⟨b, off, none⟩) bs.length c] w fun e w' => ∃ v', e = .returned (.tuple #[v', .int .i64 (trows bs q 4).2.2, .int .i64 (trows bs q 4).1]) ∧ RowsAt w' w.heap.size v' (trows bs q 4).2.1 ∧ Below w.heap.size w w' := by
  obtain ⟨i0, hi, hz0, hz1, hz2⟩ := info_parts Tryd.infoBytes
  have HC := hid htc
  clear htc
  unfold maxLen at hm
  go_enter Tryd.func61, Tryd.ntmps61
  go_wp2_with fail
  refine HC.out.mono ?_
  rintro e wd ⟨rfl, nq, rfl⟩
  have hw' : ∃ w', w' = w := ⟨w, rfl⟩
  obtain ⟨w', rfl⟩ := hw'
  go_wp2_with fail
  go_loopw [7, 6, 8] (fun l at' i wr => ∃ (k p : Nat) (rows : List (List UInt8)) (vs : List Value), k ≤ q ∧ i = .int .i64 k ∧ at' = .int .i64 p ∧ p ≤ bs.length ∧ rows.length = k ∧ wr.ownsRow w'.heap.size 24 1 l k vs ∧ RowsOwn wr w'.heap.size vs rows ∧ Below w'.heap.size w' wr ∧ Hid (thenRows rows (trows bs (q - k) p) = trows bs q 4)) (fun _ _ i _ => q - (intOf i).toNat)
  case atStart => exact ⟨0, 4, [], [], Nat.zero_le _, rfl, rfl, h4, rfl, World.ownsRow_nil _ _ _ _, RowsOwn.nil _ _, below_drewN (Below.refl _ _) _, thenRows_nil _ _ _⟩
  case round =>
    obtain ⟨k, p, rows, vs, hk, rfl, rfl, hp, hrl, hown, hrows, hbel, hfin⟩ := hrel
    have hsz := hbel.size
    have hshr := hsh.below (hbel.mono hB)
    by_cases hlt : k < q
    · have hqk : q - k = (q - k - 1) + 1 := by omega
      have hfk : thenRows rows (trows bs (q - k - 1 + 1) p) = trows bs q 4 := by rw [← hqk]; exact hfin.out
      clear hfin hqk
      have HRL := hid hrl
      clear hrl
      by_cases hpc : p = c
      · have hlc : bs.length = c := by omega
        have hd : bs.drop p = [] := List.drop_eq_nil_of_le (by omega)
        have htb : tblob (bs.drop p) = (3, [], 0) := by rw [hd]; rfl
        have hfin2 : trows bs q 4 = (3, [], 0) := by rw [← hfk, thenRows_err _ _ _ _ (by rw [htb]; decide), htb]
        have HF := hid hfin2
        clear hfk hfin2 htb hd
        have HLC := hid hlc
        clear hlc
        subst hpc
        go_wp2_with fail
        refine (refTakeBlob_any B0 _ [] wr (Shows.empty B0 wr ⟨b, off, none⟩ 0 (by unfold maxLen; omega)) (by omega)).mono ?_
        rintro e w1 ⟨v1, rfl, hne, hown1, hbel1⟩
        rw [show tblob [] = (3, [], 0) from rfl]
        go_wp2
        go_ret3
        exact ⟨_, by rw [HF.out]; rfl, by rw [HF.out]; exact ⟨[], World.ownsRow_nil _ _ _ _, RowsOwn.nil _ _⟩, hbel.trans (hbel1.mono hsz)⟩
      · have hd : (bs.drop p).take (bs.length - p) = bs.drop p := List.take_of_length_le (by simp)
        have hmid := hshr.mid p (bs.length - p) (by omega)
        rw [hd] at hmid
        have HTB := hid (refTakeBlob_any B0 _ (bs.drop p) wr hmid (by omega))
        have herr := tblob_err (bs.drop p)
        by_cases he : (tblob (bs.drop p)).1 = 0
        · have hus := tblob_used (bs.drop p) he
          have hnx : thenRows (rows ++ [(tblob (bs.drop p)).2.1]) (trows bs (q - k - 1) (p + (tblob (bs.drop p)).2.2)) = trows bs q 4 := by rw [← hfk]; exact (thenRows_next rows bs (q - k - 1) p he).symm
          have HNX := hid hnx
          clear hnx hfk hd hmid herr
          have hdl : (bs.drop p).length = bs.length - p := by simp
          rw [hdl] at hus
          generalize tblob (bs.drop p) = r at *
          obtain ⟨er, bytes, used⟩ := r
          simp only at he hus HNX HTB
          subst he
          go_wp2_with fail
          refine HTB.out.mono ?_
          rintro e w1 ⟨v1, rfl, hne, hown1, hbel1⟩
          obtain ⟨g, cap, rfl⟩ := own_shape hown1 (hne (by trivial))
          have hsz1 := hbel1.size
          have hown' := ownsRow_below hown hbel1
          have hrows' := hrows.below hbel1
          have hrows2 := hrows'.snoc hsz hown1 ⟨g, cap, rfl⟩ (fun u hu x hx => (hrows.lt u hu x hx).2)
          go_wp2_with (first
            | (at_builtin; refine wpList_append_own _ rfl _ _ 32 rfl w'.heap.size 24 i0 (.slice none 0 0) 1 24 Tryd.underlying32 hi hz0 hz1 hz2 rfl (by decide) _ _ _ rfl (hown'.alloc _) ⟨w1.heap.size, 0, none⟩ 1 1 [.slice (some ⟨g, 0, none⟩) bytes.length cap] rfl rfl ?c1 ?c2 ?c3 ?c4 ?c5 ?_)
            | go_in)
          case c1 =>
            intro j u hj
            match j, hj with
            | 0, hj => simp at hj; subst hj; simp [Addr.add]
          case c2 => intro u hu; simp at hu; subst hu; rfl
          case c3 => unfold maxLen; omega
          case c4 => omega
          case c5 => simp; omega
          · intro v2 w2 hown2 hgrow _
            have hb2 : Below w'.heap.size w' w2 := ((hbel.trans (hbel1.mono hsz)).alloc (by omega) _).grown hgrow (by simp; omega) (fun x hx => (hown'.lt x hx).1)
            have hr2 := (hrows2.below ((Below.refl _ _).alloc (Nat.le_refl _) _)).kept (hown'.alloc _) hgrow
            clear hrows hrows' hrows2 hown hown' hown1 hgrow HTB hne hbel hbel1
            go_wp2
            go_roundw
            case rel => exact ⟨k + 1, p + used, rows ++ [bytes], vs ++ [.slice (some ⟨g, 0, none⟩) bytes.length cap], by omega, by go_num, by go_num, by omega, by have := HRL.out; simp; omega, hown2, hr2, hb2, by have := HNX.out; rwa [Nat.sub_sub] at this⟩
            case measure => simp [intOf]; omega
        · have hz' : (((tblob (bs.drop p)).1 : Int) != 0) = true := by rw [bne_iff_ne]; omega
          have hfin2 : trows bs q 4 = ((tblob (bs.drop p)).1, [], 0) := by rw [← hfk, thenRows_err _ _ _ _ he]
          have HF := hid hfin2
          clear hfk hfin2 hd hmid he
          generalize tblob (bs.drop p) = r at *
          go_wp2_with fail
          refine HTB.out.mono ?_
          rintro e w1 ⟨v1, rfl, hne, hown1, hbel1⟩
          go_wp2
          go_ret3
          exact ⟨_, by rw [HF.out]; rfl, by rw [HF.out]; exact ⟨[], World.ownsRow_nil _ _ _ _, RowsOwn.nil _ _⟩, hbel.trans (hbel1.mono hsz)⟩
    · have hkq : k = q := by omega
      subst hkq
      have hfin2 : trows bs k 4 = (0, rows, p) := by have := hfin.out; simp [trows, thenRows] at this; exact this.symm
      have HF := hid hfin2
      clear hfin hfin2
      go_wp2
      go_ret3
      exact ⟨_, by rw [HF.out]; rfl, by rw [HF.out]; exact ⟨vs, by rw [hrl]; exact hown, hrows⟩, hbel⟩


theorem trow_eq (bs : List UInt8) (h : 4 ≤ bs.length) : trow bs = if 4096 < num (bs.take 4) then (2, [], 0) else trows bs (num (bs.take 4)) 4 := by
  rw [trow, tcount_eq bs 4096 h]
  by_cases hm : 4096 < num (bs.take 4)
  · rw [if_pos hm, if_pos hm]; rfl
  · rw [if_neg hm, if_neg hm]; simp

set_option maxHeartbeats 1000000 in
theorem refTakeRow_any (B0 : Nat) (v : Value) (bs : List UInt8) (w : World) (hsh : Shows B0 w v bs) (hB : B0 ≤ w.heap.size) :
    Calls Tryd.prog 61 #[v] w fun e w' => ∃ v', e = .returned (.tuple #[v', .int .i64 (trow bs).2.2, .int .i64 (trow bs).1]) ∧ RowsAt w' w.heap.size v' (trow bs).2.1 ∧ Below w.heap.size w w' := by
  have hsh0 := hsh
  obtain ⟨a, c, rfl, h1, h2, hn, h3⟩ := hsh
  by_cases h4 : bs.length < 4
  · have HT := hid (show trow bs = (3, [], 0) by rw [trow, tcount_short bs 4096 h4]; rfl)
    go_enter Tryd.func61, Tryd.ntmps61
    go_wp2
    go_ret3
    exact ⟨_, by rw [HT.out]; rfl, by rw [HT.out]; exact ⟨[], World.ownsRow_nil _ _ _ _, RowsOwn.nil _ _⟩, Below.refl _ _⟩
  · obtain ⟨b, off, rfl, hbB, hc⟩ := h3 (by intro e; simp [e] at h4)
    have hcount := rcount_any B0 _ bs w hsh0 (by omega)
    have ht := trow_eq bs (by omega)
    by_cases hm : 4096 < num (bs.take 4)
    · rw [if_pos hm] at ht
      have HT := hid ht
      have HC := hid hcount
      clear ht hcount
      generalize num (bs.take 4) = q at *
      go_enter Tryd.func61, Tryd.ntmps61
      go_wp2_with fail
      refine HC.out.mono ?_
      rintro e w1 ⟨rfl, nq, rfl⟩
      go_wp2
      go_ret3
      exact ⟨_, by rw [HT.out]; rfl, by rw [HT.out]; exact ⟨[], World.ownsRow_nil _ _ _ _, RowsOwn.nil _ _⟩, below_drewN (Below.refl _ _) _⟩
    · rw [if_neg hm] at ht
      rw [ht]
      exact refTakeRow_loop B0 b off c bs w hsh0 hB (by omega) _ (by omega) h1 h2 hcount
end Go.Proofs.YtmafaioohiaenaaDoor
