/- Contract of the document's own Raw. -/
import Derived.Test.YtomfhihhhfelfaaDoorRefP
namespace Go.Proofs.YtomfhihhhfelfaaDoor
open Go.RowKit
set_option linter.unusedVariables false

theorem owns_form {w : World} {base : Nat} {e : TypeId} {size : Nat} {v : Value} {n : Nat} {xs : List Value} (h : w.ownsRow base e size v n xs) (hn : 0 < n) : ∃ g cap, v = .slice (some ⟨g, 0, none⟩) n cap := by
  rcases h.2 with ⟨_, h0⟩ | ⟨g, cap, _, e, _⟩
  · omega
  · exact ⟨_, _, e⟩

theorem Tryd.infoSum0 : (Tryd.prog.info? 26).map (·.size) = some 32 := by kernel_rfl

set_option maxRecDepth 100000 in
set_option maxHeartbeats 16000000 in
theorem refRaw_any (B : Nat) (v : Value) (bs : List UInt8) (w : World) (hB : B ≤ w.heap.size) (hsh : Shows B w v bs) (hl : bs.length ≤ 1099511627776) :
    Calls Tryd.prog 13 #[v] w fun e w' => e = .returned (.agg ((sha bs).map by8).toArray) ∧ Below w.heap.size w w' := by
  obtain ⟨i0, hi, hz0, hz1, hz2⟩ := info_parts Tryd.infoU8
  obtain ⟨i9, hi9, hz09, hz19, hz29⟩ := info_parts Tryd.infoInt
  have hsh0 := hsh
  obtain ⟨a, c, rfl, h1, h2, hn, h3⟩ := hsh
  have HM := fun o => made_two w o 5
  clear h3
  go_enter Tryd.func13, Tryd.ntmps13
  go_wp2_with (first
    | (at_builtin; refine wpList_append_shows _ rfl (.tmp 18) (.tmp 19) 22 rfl (w.heap.size + 1) 5 i0 Tryd.underlying22 hi hz0 hz1 hz2 _ 0 [] rfl (HM _) B _ bs rfl ((hsh0.alloc hB _).alloc (by simp; omega) _) ?_ ?_ ?_)
    | fail)
  · omega
  · simp
  intro v1 w1 hown1 hg1 hnil
  try rw [Nat.zero_add, List.nil_append] at hown1
  obtain ⟨n1, n0, nb⟩ := two_new w (.cells #[.int .u8 0, .int .u8 0, .int .u8 0, .int .u8 0, .int .u8 0, .int .u8 0, .int .u8 0, .int .u8 0, .int .u8 0, .int .u8 0, .int .u8 0, .int .u8 0, .int .u8 0, .int .u8 0, .int .u8 0, .int .u8 0, .int .u8 0, .int .u8 0, .int .u8 0, .int .u8 0, .int .u8 0, .int .u8 0, .int .u8 0, .int .u8 0, .int .u8 0, .int .u8 0, .int .u8 0, .int .u8 0, .int .u8 0, .int .u8 0, .int .u8 0, .int .u8 0] 26) (.cells #[] 5)
  have hb1 : Below w.heap.size w w1 := nb.grown hg1 (by simp; omega) (fun q hq => by have hq' : some (w.heap.size + 1) = some q := hq; cases hq'; omega)
  have HZ : Hid (∃ z : Array Value, z.size = 32 ∧ w1.heap[w.heap.size]? = some (.cells z 26 (0, 0))) := hid ⟨_, by rfl, (hg1.block _ (by simp; omega) (by simp [Value.ownBlock])).trans n0⟩
  clear n1 n0 nb hg1 hnil HM
  have hs1 : w.heap.size < w1.heap.size := by obtain ⟨z, _, hz⟩ := HZ.out; exact block_lt hz
  go_wp2_with (first
    | (at_builtin; refine wpList_append_own _ rfl (.tmp 20) (.tmp 21) 22 rfl (w.heap.size + 1) 5 i0 (.int .u8 0) 1 1 Tryd.underlying22 hi hz0 hz1 hz2 rfl (by decide) _ _ _ rfl (hown1.alloc _) ⟨w1.heap.size, 0, none⟩ 1 1 [.int .u8 128] rfl rfl (one_cell w1 _ _) ?c2 ?c3 ?c4 ?c5 ?_)
    | fail)
  case c2 => intro u hu; simp at hu; subst hu; rfl
  case c3 => unfold maxLen; omega
  case c4 => omega
  case c5 => simp; omega
  intro v2 w2 hown2 hg2 _
  have hb2 : Below w.heap.size w w2 := (hb1.alloc (by omega) _).grown hg2 (by simp; omega) (fun q hq => by have := (hown1.lt q hq).1; omega)
  replace HZ : Hid (∃ z : Array Value, z.size = 32 ∧ w2.heap[w.heap.size]? = some (.cells z 26 (0, 0))) := hid (by
    obtain ⟨z, hz, hz2⟩ := HZ.out
    refine ⟨z, hz, (hg2.block _ (by simp; omega) (fun e => ?_)).trans ((heap_alloc_old w1 _ hs1).trans hz2)⟩
    have := (hown1.lt _ e.symm).1
    omega)
  have hown3 : w2.ownsRow (w.heap.size + 1) 5 1 v2 (bs.length + 1 + 0) ((bs ++ [128] ++ List.replicate 0 0).map by8) := by simpa [by8] using hown2
  clear hown1 hown2 hg2 hb1 hs1
  have HO := hid hown3
  have HB := hid hb2
  clear hown3 hb2
  go_wp2_with fail
  go_loopw [3] (fun x wr => ∃ (j g cap : Nat), j ≤ tailOf bs.length ∧ x = .slice (some ⟨g, 0, none⟩) (bs.length + 1 + j) cap ∧ wr.ownsRow (w.heap.size + 1) 5 1 (.slice (some ⟨g, 0, none⟩) (bs.length + 1 + j) cap) (bs.length + 1 + j) ((bs ++ [128] ++ List.replicate j 0).map by8) ∧ Hid (∃ z : Array Value, z.size = 32 ∧ wr.heap[w.heap.size]? = some (.cells z 26 (0, 0))) ∧ Below w.heap.size w wr) (fun x _ => bs.length + 1 + tailOf bs.length - sliceLen x)
  case atStart =>
    obtain ⟨g, cap, hv⟩ : ∃ g cap, v2 = .slice (some ⟨g, 0, none⟩) (bs.length + 1 + 0) cap := owns_form HO.out (by omega)
    have := HO.out
    rw [hv] at this
    exact ⟨0, g, cap, Nat.zero_le _, hv, this, HZ, HB.out⟩
  case round =>
    clear HO HZ HB
    obtain ⟨j, g, cap, hj, rfl, hown, HZ, hbr⟩ := hrel
    have hm1 := HZ.out.elim fun z h => block_lt h.2
    by_cases hjt : j < tailOf bs.length
    · have q2 : ((((bs.length : Nat) : Int) + 1 + (j : Int)) % 64 != 56) = true := by
        have q1 := tail_more bs.length j hjt
        have : ((bs.length : Int) + 1 + (j : Int)) % 64 ≠ 56 := by omega
        simpa using this
      have q3 := tail_lt bs.length
      have HJ := hid hjt
      have HJ2 := hid hj
      clear hjt hj
      go_wp2_with (first
        | (at_builtin; refine wpList_append_own _ rfl (.tmp 27) (.tmp 28) 22 rfl (w.heap.size + 1) 5 i0 (.int .u8 0) 1 1 Tryd.underlying22 hi hz0 hz1 hz2 rfl (by decide) _ _ _ rfl (hown.alloc _) ⟨wr.heap.size, 0, none⟩ 1 1 [.int .u8 0] rfl rfl (one_cell wr _ _) ?c2 ?c3 ?c4 ?c5 ?_)
        | fail)
      case c2 => intro u hu; simp at hu; subst hu; rfl
      case c3 => have := HJ.out; unfold maxLen; omega
      case c4 => have := HJ.out; omega
      case c5 => simp; omega
      intro v3 w3 hown3 hg3 _
      obtain ⟨g3, cap3, hv3⟩ := owns_form hown3 (by omega)
      rw [hv3] at hown3 ⊢
      have hb3 : Below w.heap.size w w3 := (hbr.alloc (by omega) _).grown hg3 (by simp; omega) (fun q hq => by have := (hown.lt q hq).1; omega)
      have HZ3 : Hid (∃ z : Array Value, z.size = 32 ∧ w3.heap[w.heap.size]? = some (.cells z 26 (0, 0))) := hid (by
        obtain ⟨z, hz, hz2⟩ := HZ.out
        refine ⟨z, hz, (hg3.block _ (by simp; omega) (fun e => ?_)).trans ((heap_alloc_old wr _ hm1).trans hz2)⟩
        have := (hown.lt _ e.symm).1
        omega)
      clear hg3 HZ hown hbr
      go_wp2
      go_roundw
      case rel =>
        refine ⟨j + 1, g3, cap3, HJ.out, rfl, ?_, HZ3, hb3⟩
        rw [show List.map by8 (bs ++ [128] ++ List.replicate (j + 1) 0) = List.map by8 bs ++ by8 128 :: (List.replicate j (by8 0) ++ [.int .u8 0]) by simp [List.replicate_succ', by8]]
        exact hown3
      case measure => have := HJ.out; simp [sliceLen]; omega
    · have hjt2 : j = tailOf bs.length := by omega
      have q2 : ((((bs.length : Nat) : Int) + 1 + (j : Int)) % 64 != 56) = false := by
        have q1 := tail_end bs.length
        have : ((bs.length : Int) + 1 + (j : Int)) % 64 = 56 := by omega
        simpa using this
      have HPL := hid (padded_len bs)
      have HPW := hid (padded_whole bs)
      have q3 := tail_lt bs.length
      have HPE : Hid (padded bs = bs ++ [128] ++ List.replicate j 0 ++ be (u64of ((8 * bs.length : Nat) : Int)) 8) := hid (by rw [u64of_nat _ (by omega), hjt2]; exact padded_eq bs)
      have HN := hid (refNum_any (8 * (bs.length : Int)) wr (by omega) (by omega))
      rw [show ((8 * bs.length : Nat) : Int) = 8 * (bs.length : Int) by omega] at HPE
      have HJ := hid hjt2
      clear hjt hjt2 hj
      go_wp2_with fail
      refine HN.out.mono ?_
      rintro e' w2 ⟨gn, rfl, hownn, hbn⟩
      have hown2 := owns_below hown hbn (Nat.le_refl _)
      have hshn := (shows_of_owns hownn).2
      have hs2 := hbn.size
      go_wp2_with (first
        | (at_builtin; refine wpList_append_shows _ rfl (.tmp 30) (.tmp 34) 22 rfl (w.heap.size + 1) 5 i0 Tryd.underlying22 hi hz0 hz1 hz2 _ _ _ rfl hown2 w2.heap.size _ _ rfl hshn ?_ ?_ ?_)
        | fail)
      · have := HJ.out; rw [be_length]; omega
      · omega
      intro v3 w3 hown3 hg3 _
      have hown4 : w3.ownsRow (w.heap.size + 1) 5 1 v3 (padded bs).length ((padded bs).map by8) := by
        rw [be_length] at hown3
        rw [HPL.out, HPE.out, ← HJ.out]
        simpa using hown3
      have hb3 : Below w.heap.size w w3 := (hbr.trans (hbn.mono hbr.size)).grown hg3 (by omega) (fun q hq => by have := (hown.lt q hq).1; omega)
      have HZ3 : Hid (∃ z : Array Value, z.size = 32 ∧ w3.heap[w.heap.size]? = some (.cells z 26 (0, 0))) := hid (by
        obtain ⟨z, hz, hz2⟩ := HZ.out
        refine ⟨z, hz, (hg3.block _ (by omega) (fun e => ?_)).trans ((hbn.block _ hm1).trans hz2)⟩
        have := (hown.lt _ e.symm).1
        omega)
      have hm3 : w.heap.size < w3.heap.size := by obtain ⟨z, _, hz⟩ := HZ3.out; exact block_lt hz
      clear hown3 hg3 hown2 hownn hbn hshn hown hbr HZ hm1 hs2 HPE HN q2 HJ
      obtain ⟨hlenP, hownP⟩ := hown4
      rcases hownP with ⟨_, hzero⟩ | ⟨gb, capb, curb, rfl, hBg, hg, hnc, hcm, hcs, htk⟩
      · have := HPL.out; omega
      have HSH : Hid (∀ wx : World, wx.heap[gb]? = some (.cells curb 5 (0, 0)) → Shows wx.heap.size wx (.slice (some ⟨gb, 0, none⟩) (padded bs).length capb) (padded bs)) := hid (fun wx hx => (shows_of_owns (B := w.heap.size + 1) (e := 5) ⟨hlenP, .inr ⟨gb, capb, curb, rfl, hBg, hx, hnc, hcm, hcs, htk⟩⟩).2)
      have HG := hid hg
      have HSHA : Hid (sha bs = (works (padded bs) start ((padded bs).length / 64)).bytes) := hid rfl
      have hplm : (padded bs).length ≤ 1099511627776 + 128 := by have := HPL.out; omega
      have hpl0 : (padded bs).length = 64 * ((padded bs).length / 64) := HPW.out
      have HPL0 := hid hpl0
      unfold maxLen at hcm
      have hgb3 := block_lt hg
      clear hlenP hg hcs htk HPL HPW hpl0 q3
      generalize padded bs = pd at *
      generalize hL : pd.length = L at *
      have HLL := hid hL
      clear hL
      go_wp2_with ((go_at_call 28; refine (ks_any w3).mono ?_; rintro e' w' ⟨rfl, rfl⟩))
      refine (hs_any _).mono ?_
      rintro e' w' ⟨rfl, rfl⟩
      rw [show (w3.alloc (.cells (cubes.map iv).toArray 3)).heap.size = w3.heap.size + 1 by simp]
      obtain ⟨m1, m0, mb⟩ := two_new w3 (.cells (cubes.map iv).toArray 3) (.cells #[iv start.a, iv start.b, iv start.c, iv start.d, iv start.e, iv start.f, iv start.g, iv start.h] 3)
      generalize World.alloc _ (.cells #[iv start.a, iv start.b, iv start.c, iv start.d, iv start.e, iv start.f, iv start.g, iv start.h] 3) = w4 at *
      have HH : Hid (w4.heap[w3.heap.size + 1]? = some (.cells (works pd start 0).ints.toArray 3 (0, 0))) := hid m1
      have HK := hid m0
      replace HG := hid ((mb.block _ hgb3).trans HG.out)
      replace HZ3 : Hid (∃ z : Array Value, z.size = 32 ∧ w4.heap[w.heap.size]? = some (.cells z 26 (0, 0))) := hid (by obtain ⟨z, hz, hz2⟩ := HZ3.out; exact ⟨z, hz, (mb.block _ hm3).trans hz2⟩)
      have HB4 := hid (hb3.trans (mb.mono (by omega)))
      clear m1 m0 mb hb3
      generalize w3.heap.size = kb at *
      go_wp2_with fail
      go_loopw [6] (fun i wr => ∃ (at' n : Nat), i = .int .i64 at' ∧ at' ≤ L ∧ Hid (at' = 64 * n) ∧ Hid (wr.heap[kb + 1]? = some (.cells (works pd start n).ints.toArray 3 (0, 0))) ∧ Hid (wr.heap[kb]? = some (.cells (cubes.map iv).toArray 3 (0, 0))) ∧ Hid (wr.heap[gb]? = some (.cells curb 5 (0, 0))) ∧ Hid (∃ z : Array Value, z.size = 32 ∧ wr.heap[w.heap.size]? = some (.cells z 26 (0, 0))) ∧ Hid (Below w.heap.size w wr)) (fun i _ => L - (intOf i).toNat)
      case atStart => exact ⟨0, 0, rfl, Nat.zero_le _, rfl, HH, HK, HG, HZ3, HB4⟩
      case round =>
        clear HH HK HG HZ3 HB4
        rename_i wr0
        obtain ⟨at', n, rfl, hat, HAT, HH, HK, HG, HZ, HBR⟩ := hrel
        have hkb := block_lt HH.out
        by_cases hlt : at' < L
        · have hat3 : at' + 64 ≤ L := by have := HAT.out; have := HPL0.out; omega
          have HP : Hid (Shows wr.heap.size wr (.slice (some ⟨gb, at', none⟩) 64 (capb - at')) ((pd.drop at').take 64)) := hid (by
            have := (HSH.out wr HG.out).mid at' 64 (by rw [HLL.out]; exact hat3)
            rw [Nat.zero_add] at this
            exact this)
          have HPL2 : Hid (((pd.drop at').take 64).length = 64) := hid (by have := HLL.out; simp; omega)
          have HQ := hid (show works pd start (n + 1) = work (works pd start n) ((pd.drop at').take 64) by rw [works, HAT.out])
          have HOK := hid (works_ok pd start_ok n)
          have i1 : (0 : Int) ≤ (at' : Int) := by omega
          have i2 : (at' : Int) + 64 ≤ (capb : Int) := by omega
          have i3 : (at' : Int) ≤ (at' : Int) + 64 := by omega
          have i4 : IntKind.i64.wrap ((at' : Int) + 64) = (at' : Int) + 64 := by rw [IntKind.wrap_i64]; omega
          have i5 : ¬ capb = at' := by omega
          have i6 : at' + 64 - at' = 64 := by omega
          generalize works pd start n = st at *
          generalize (pd.drop at').take 64 = pc at *
          go_wp2_with fail
          refine (expand_any wr.heap.size _ pc wr (Nat.le_refl _) HP.out HPL2.out).mono ?_
          rintro e' w5 ⟨rfl, hx, hb5⟩
          have hwb5 := block_lt hx
          have HX := hid hx
          replace HH := hid ((hb5.block _ hkb).trans HH.out)
          replace HK := hid ((hb5.block _ (by omega)).trans HK.out)
          replace HG := hid ((hb5.block _ (by omega)).trans HG.out)
          replace HZ : Hid (∃ z : Array Value, z.size = 32 ∧ w5.heap[w.heap.size]? = some (.cells z 26 (0, 0))) := hid (by obtain ⟨z, hz, hz2⟩ := HZ.out; exact ⟨z, hz, (hb5.block _ (by omega)).trans hz2⟩)
          replace HBR := hid (HBR.out.trans (hb5.mono (by omega)))
          clear hx hb5 HP HPL2 i1 i2 i3 i4 i5 i6
          generalize wr.heap.size = wb at *
          have HWL : Hid (∀ i, (sched pc).getD i 0 < 4294967296) := hid (getD_lt (spread_lt pc 48))
          have HWS : Hid ((sched pc).length = 64) := hid (spread_length pc 48)
          have HWK : Hid (work st pc = st.plus (rnds (sched pc) st 64)) := hid rfl
          generalize sched pc = ws at *
          have HIO := hid (ints_one st)
          have HIC : Hid (∀ (o : Obj) (j : Nat) (u : Value), st.ints[j]? = some u → (w5.alloc o).cell? ((⟨kb + 1, 0, none⟩ : Addr).add j) = some u) := hid (fun o j u hu => by
            have hadd : (⟨kb + 1, 0, none⟩ : Addr).add j = ⟨kb + 1, j, none⟩ := by unfold Addr.add; split <;> simp_all
            rw [hadd, cell_of_row _ _ _ _ _ _ ((heap_alloc_old w5 o (block_lt HH.out)).trans HH.out)]
            simpa using hu)
          have hst8 : st.ints.length = 8 := ints_length st
          have HST8 := hid hst8
          clear hst8
          have hm5 : (w5.alloc (.cells #[] 3)).ownsRow w5.heap.size 3 1 (.slice (some ⟨w5.heap.size, 0, none⟩) 0 0) 0 [] := World.ownsRow_made w5 #[] 0 (Nat.le_refl _) (by unfold maxLen; omega) rfl
          go_wp2_with (first
            | (at_builtin; refine wpList_append_own _ rfl (.tmp 50) (.tmp 51) 52 rfl w5.heap.size 3 i9 (.int .i64 0) 1 8 Tryd.underlying52 hi9 hz09 hz19 hz29 rfl (by decide) _ 0 [] rfl hm5 ⟨kb + 1, 0, none⟩ 8 8 st.ints rfl ?c0 ?c1 ?c2 ?c3 ?c4 ?c5 ?_)
            | fail)
          case c0 => rw [HST8.out]
          case c1 => exact HIC.out _
          case c2 => exact HIO.out
          case c3 => unfold maxLen; omega
          case c4 => omega
          case c5 => simp
          intro v6 w6 hown6 hg6 _
          have hown6' : w6.ownsRow w5.heap.size 3 1 v6 8 st.ints := by simpa using hown6
          obtain ⟨gv, capv, hv6⟩ := owns_form hown6' (by omega)
          rw [hv6] at hown6' ⊢
          have hgv : w5.heap.size ≤ gv := (hown6'.lt gv rfl).1
          have hcv : 8 ≤ capv := by
            rcases hown6'.2 with ⟨_, h⟩ | ⟨_, _, _, e, _, _, h, _⟩
            · omega
            · simp only [Value.slice.injEq] at e; omega
          have hb6 : Below w5.heap.size w5 w6 := ((Below.refl _ _).alloc (Nat.le_refl _) _).grown hg6 (by simp) (fun q hq => by have hq' : some w5.heap.size = some q := hq; cases hq'; exact Nat.le_refl _)
          replace HH := hid ((hb6.block _ (by omega)).trans HH.out)
          replace HK := hid ((hb6.block _ (by omega)).trans HK.out)
          replace HG := hid ((hb6.block _ (by omega)).trans HG.out)
          replace HX := hid ((hb6.block _ (by omega)).trans HX.out)
          replace HZ : Hid (∃ z : Array Value, z.size = 32 ∧ w6.heap[w.heap.size]? = some (.cells z 26 (0, 0))) := hid (by obtain ⟨z, hz, hz2⟩ := HZ.out; exact ⟨z, hz, (hb6.block _ (by omega)).trans hz2⟩)
          replace HBR := hid (HBR.out.trans (hb6.mono (by omega)))
          have HV6 := hid hown6'
          clear hown6 hown6' hg6 hb6 hm5 HIC HIO HST8
          generalize w5.heap.size = vb at *
          have HCK : Hid (∀ i, i < 64 → w6.cell? ⟨kb, i, none⟩ = some (.int .i64 ((cubes.getD i 0 : Nat) : Int))) := hid (fun i hi => by
            rw [cell_of_row _ _ _ _ _ _ HK.out]
            have : i < cubes.length := by rw [cubes_length]; exact hi
            simp [List.getElem?_eq_getElem this, iv])
          have HCX : Hid (∀ i, i < 64 → w6.cell? ⟨wb, i, none⟩ = some (.int .i64 ((ws.getD i 0 : Nat) : Int))) := hid (fun i hi => by
            rw [cell_of_row _ _ _ _ _ _ HX.out]
            have : i < ws.length := by rw [HWS.out]; exact hi
            simp [List.getElem?_eq_getElem this, iv])
          have HCL : Hid (∀ i, cubes.getD i 0 < 4294967296) := hid (getD_lt cubes_lt)
          go_wp2_with fail
          go_loopw [9] (fun i wx => ∃ (t : Nat) (s : St), t ≤ 64 ∧ i = .int .i64 t ∧ Hid s.Ok ∧ Hid (s = rnds ws st t) ∧ Hid (wx.ownsRow vb 3 1 (.slice (some ⟨gv, 0, none⟩) 8 capv) 8 s.ints) ∧ Hid (Below vb w6 wx)) (fun i _ => 64 - (intOf i).toNat)
          case atStart => exact ⟨0, st, Nat.zero_le _, rfl, HOK, rfl, HV6, hid (Below.refl _ _)⟩
          case round =>
            clear HV6
            obtain ⟨t, s, ht, rfl, HOK2, HS, HV, HBX⟩ := hrel
            by_cases hlt6 : t < 64
            · obtain ⟨A, B', C, D, E, F, G, H⟩ := s
              have ck : wr.cell? ⟨kb, t, none⟩ = _ := (HBX.out.cell (p := ⟨kb, t, none⟩) (by show kb < vb; omega)).trans (HCK.out t hlt6)
              have cx : wr.cell? ⟨wb, t, none⟩ = _ := (HBX.out.cell (p := ⟨wb, t, none⟩) (by show wb < vb; omega)).trans (HCX.out t hlt6)
              have hkl := HCL.out t
              have hwl := HWL.out t
              have HN : Hid (rnds ws st (t + 1) = rnd (rnds ws st t) (cubes.getD t 0) (ws.getD t 0)) := hid rfl
              obtain ⟨o1, o2, o3, o4, o5, o6, o7, o8⟩ := HOK2.out
              simp only at o1 o2 o3 o4 o5 o6 o7 o8
              have c0 : wr.cell? ⟨gv, 0, none⟩ = some (.int .i64 (A : Int)) := HV.out.cellAt 0 (by omega)
              have c1 : wr.cell? ⟨gv, 1, none⟩ = some (.int .i64 (B' : Int)) := HV.out.cellAt 1 (by omega)
              have c2 : wr.cell? ⟨gv, 2, none⟩ = some (.int .i64 (C : Int)) := HV.out.cellAt 2 (by omega)
              have c4 : wr.cell? ⟨gv, 4, none⟩ = some (.int .i64 (E : Int)) := HV.out.cellAt 4 (by omega)
              have c5 : wr.cell? ⟨gv, 5, none⟩ = some (.int .i64 (F : Int)) := HV.out.cellAt 5 (by omega)
              have c6 : wr.cell? ⟨gv, 6, none⟩ = some (.int .i64 (G : Int)) := HV.out.cellAt 6 (by omega)
              have c7 : wr.cell? ⟨gv, 7, none⟩ = some (.int .i64 (H : Int)) := HV.out.cellAt 7 (by omega)
              have ti : (t : Int) < 64 := by omega
              generalize cubes.getD t 0 = kt at *
              generalize ws.getD t 0 = wt at *
              obtain ⟨N, hN⟩ : ∃ N, E + N = 4294967295 := ⟨4294967295 - E, by omega⟩
              have hN2 : N < 4294967296 := by omega
              have r6 := rot_lt E 6 o5
              have r11 := rot_lt E 11 o5
              have r25 := rot_lt E 25 o5
              have x1 := xor64 (rot E 6) (rot E 11) (by omega) (by omega)
              have x2 : bits .xor .i64 ((rot E 6 ^^^ rot E 11 : Nat) : Int) ((rot E 25 : Nat) : Int) = ((up1 E : Nat) : Int) := by
                have := xor_lt32 r6 r11
                rw [xor64 _ _ (by omega) (by omega)]
                rfl
              have a1 := and64 E F (by omega) (by omega)
              have a2 := and64 N G (by omega) (by omega)
              have a3 : bits .xor .i64 ((E &&& F : Nat) : Int) ((N &&& G : Nat) : Int) = ((cho E F G : Nat) : Int) := by
                have h1 := and_lt32 o5 o6
                have h2 := and_lt32 hN2 o7
                rw [xor64 _ _ (by omega) (by omega), cho, show 4294967295 - E = N by omega]
              have u1 := up1_lt o5
              have u2 := cho_lt o5 o6 o7
              have r2 := rot_lt A 2 o1
              have r13 := rot_lt A 13 o1
              have r22 := rot_lt A 22 o1
              have y1 := xor64 (rot A 2) (rot A 13) (by omega) (by omega)
              have y2 : bits .xor .i64 ((rot A 2 ^^^ rot A 13 : Nat) : Int) ((rot A 22 : Nat) : Int) = ((up0 A : Nat) : Int) := by
                have := xor_lt32 r2 r13
                rw [xor64 _ _ (by omega) (by omega)]
                rfl
              have b1 := and64 A B' (by omega) (by omega)
              have b2 := and64 A C (by omega) (by omega)
              have b3 := and64 B' C (by omega) (by omega)
              have b4 := xor64 (A &&& B') (A &&& C) (by have := and_lt32 o1 o2; omega) (by have := and_lt32 o1 o3; omega)
              have b5 : bits .xor .i64 ((A &&& B' ^^^ A &&& C : Nat) : Int) ((B' &&& C : Nat) : Int) = ((maj A B' C : Nat) : Int) := by
                have h1 := xor_lt32 (and_lt32 o1 o2) (and_lt32 o1 o3)
                have h2 := and_lt32 o2 o3
                rw [xor64 _ _ (by omega) (by omega)]
                rfl
              have u3 := up0_lt o1
              have u4 := maj_lt o1 o2 o3
              clear r6 r11 r25 r2 r13 r22
              go_wp2_with fail
              go_quiet (first | (go_at_call 31; refine Calls.quiet_of (turn_int E _ _ o5 (by decide) (by decide))) | (go_at_call 32; refine Calls.quiet_of_same (not_eq E N _ hN)))
              have HVq : Hid ((wr.drewN nq).ownsRow vb 3 1 (.slice (some ⟨gv, 0, none⟩) 8 capv) 8 (St.ints ⟨A, B', C, D, E, F, G, H⟩)) := hid HV.out
              have HBq := hid (below_drewN HBX.out nq)
              clear x1 x2 a1 a2 a3 ck cx c0 c1 c2 c4 c5 c6 c7 HV HBX
              generalize wr.drewN nq = wy at *
              have c1 : wy.cell? ⟨gv, 1, none⟩ = some (.int .i64 (B' : Int)) := HVq.out.cellAt 1 (by omega)
              have c2 : wy.cell? ⟨gv, 2, none⟩ = some (.int .i64 (C : Int)) := HVq.out.cellAt 2 (by omega)
              go_wp2_with fail
              go_quiet ((go_at_call 31; refine Calls.quiet_of (turn_int A _ _ o1 (by decide) (by decide))))
              have HVz : Hid ((wy.drewN nq).ownsRow vb 3 1 (.slice (some ⟨gv, 0, none⟩) 8 capv) 8 (gone ⟨A, B', C, D, E, F, G, H⟩ 7)) := hid HVq.out
              have HBz := hid (below_drewN HBq.out nq)
              clear y1 y2 b1 b2 b3 b4 b5 c1 c2 HVq HBq
              generalize wy.drewN nq = wz at *
              go_wp2_with fail
              go_loopw [14] (fun i wv => ∃ (j : Nat), j ≤ 7 ∧ i = .int .i64 j ∧ Hid (wv.ownsRow vb 3 1 (.slice (some ⟨gv, 0, none⟩) 8 capv) 8 (gone ⟨A, B', C, D, E, F, G, H⟩ j)) ∧ Hid (Below vb w6 wv)) (fun i _ => (intOf i).toNat)
              case atStart => exact ⟨7, Nat.le_refl _, rfl, HVz, HBz⟩
              case round =>
                clear HVz HBz
                obtain ⟨j, hj, rfl, HV, HB⟩ := hrel
                rcases j with _ | j
                · have c4 : wr.cell? ⟨gv, 4, none⟩ = some (.int .i64 (D : Int)) := HV.out.cellAt 4 (by omega)
                  have c0 : wr.cell? ⟨gv, 0, none⟩ = some (.int .i64 (A : Int)) := HV.out.cellAt 0 (by omega)
                  have f0 := HV.out.frozenAt 0
                  have f4 := HV.out.frozenAt 4
                  go_wp2_with fail
                  have e1 : Value.int .i64 (((H : Int) + ((up1 E : Nat) : Int) + ((cho E F G : Nat) : Int) + (kt : Int) + (wt : Int) + (((up0 A : Nat) : Int) + ((maj A B' C : Nat) : Int))) % 4294967296) = iv (rnd ⟨A, B', C, D, E, F, G, H⟩ kt wt).a := congrArg (Value.int .i64) (by rw [rnd_a, pOf, qOf]; simp only; omega)
                  have e2 : Value.int .i64 (((D : Int) + ((H : Int) + ((up1 E : Nat) : Int) + ((cho E F G : Nat) : Int) + (kt : Int) + (wt : Int))) % 4294967296) = iv (rnd ⟨A, B', C, D, E, F, G, H⟩ kt wt).e := congrArg (Value.int .i64) (by rw [rnd_e, pOf]; simp only; omega)
                  rw [e1, e2]
                  refine ⟨⟨t + 1, rnd ⟨A, B', C, D, E, F, G, H⟩ kt wt, by omega, by go_num, hid (rnd_ok HOK2.out _ _), hid (by rw [HN.out, ← HS.out]), hid ?_, hid ((HB.out.setCell (p := ⟨gv, 0, none⟩) hgv _).setCell (p := ⟨gv, 4, none⟩) hgv _)⟩, by simp [intOf]; omega⟩
                  rw [← gone_round]
                  exact (((HV.out.stored 0 (iv (rnd ⟨A, B', C, D, E, F, G, H⟩ kt wt).a)).1).stored 4 (iv (rnd ⟨A, B', C, D, E, F, G, H⟩ kt wt).e)).1
                · have hj6 : j < 7 := by omega
                  have c1 : wr.cell? ⟨gv, j, none⟩ = _ := (HV.out.cellAt j (by omega)).trans (gone_at _ j hj6)
                  obtain ⟨old, hold⟩ := gone_old ⟨A, B', C, D, E, F, G, H⟩ j hj6
                  have c2 : wr.cell? ⟨gv, j + 1, none⟩ = _ := (HV.out.cellAt (j + 1) (by omega)).trans hold
                  have f := HV.out.frozenAt (j + 1)
                  have hst := (HV.out.stored (j + 1) (.int .i64 (((St.nums ⟨A, B', C, D, E, F, G, H⟩).getD j 0 : Nat) : Int))).1
                  rw [gone_step _ j hj6] at hst
                  have HST := hid hst
                  have j1 : (j : Int) + 1 < 8 := by omega
                  have j2 : (j : Int) < 8 := by omega
                  clear hst hold HV
                  generalize (St.nums ⟨A, B', C, D, E, F, G, H⟩).getD j 0 = x at *
                  go_wp2_with fail
                  refine ⟨⟨j, by omega, by go_num, HST, hid (HB.out.setCell (p := ⟨gv, j + 1, none⟩) hgv _)⟩, by simp [intOf]⟩
            · have ht64 : t = 64 := by omega
              have HSP : Hid (work st pc = st.plus s) := hid (by rw [HWK.out, HS.out, ht64])
              replace HH : Hid (wr.heap[kb + 1]? = some (.cells (added st s 0).toArray 3 (0, 0))) := hid ((HBX.out.block _ (by omega)).trans HH.out)
              replace HK := hid ((HBX.out.block _ (by omega)).trans HK.out)
              replace HG := hid ((HBX.out.block _ (by omega)).trans HG.out)
              replace HZ : Hid (∃ z : Array Value, z.size = 32 ∧ wr.heap[w.heap.size]? = some (.cells z 26 (0, 0))) := hid (by obtain ⟨z, hz, hz2⟩ := HZ.out; exact ⟨z, hz, (HBX.out.block _ (by omega)).trans hz2⟩)
              replace HBR := hid (HBR.out.trans (HBX.out.mono (by omega)))
              clear HBX HCK HCX HX HS ht64 HCL HWL HWS HWK
              go_wp2_with fail
              go_loopw [15] (fun i wa => ∃ (m : Nat), m ≤ 8 ∧ i = .int .i64 m ∧ Hid (wa.heap[kb + 1]? = some (.cells (added st s m).toArray 3 (0, 0))) ∧ Hid (wa.ownsRow vb 3 1 (.slice (some ⟨gv, 0, none⟩) 8 capv) 8 s.ints) ∧ Hid (wa.heap[kb]? = some (.cells (cubes.map iv).toArray 3 (0, 0))) ∧ Hid (wa.heap[gb]? = some (.cells curb 5 (0, 0))) ∧ Hid (∃ z : Array Value, z.size = 32 ∧ wa.heap[w.heap.size]? = some (.cells z 26 (0, 0))) ∧ Hid (Below w.heap.size w wa)) (fun i _ => 8 - (intOf i).toNat)
              case atStart => exact ⟨0, Nat.zero_le _, rfl, HH, HV, HK, HG, HZ, HBR⟩
              case round =>
                clear HH HV HK HG HZ HBR
                obtain ⟨m, hm, rfl, HH, HV, HK, HG, HZ, HBR⟩ := hrel
                by_cases hlt8 : m < 8
                · have ch : wr.cell? ⟨kb + 1, m, none⟩ = some (.int .i64 ((st.nums.getD m 0 : Nat) : Int)) := (cell_of_row wr _ m _ _ _ HH.out).trans (by rw [List.getElem?_toArray]; exact added_at st s m hlt8)
                  have cv : wr.cell? ⟨gv, m, none⟩ = some (.int .i64 ((s.nums.getD m 0 : Nat) : Int)) := (HV.out.cellAt m (by omega)).trans (ints_at s m hlt8)
                  have fz : wr.frozen? ⟨kb + 1, m, none⟩ = false := frozen_of_row wr _ _ _ _ HH.out
                  have n1 := nums_lt HOK.out m
                  have n2 := nums_lt HOK2.out m
                  have HAS := hid (added_step st s m hlt8)
                  have mi : (m : Int) < 8 := by omega
                  generalize st.nums.getD m 0 = x at *
                  generalize s.nums.getD m 0 = y at *
                  go_wp2_with fail
                  refine wp_region_still_tail 13 (by kernel_rfl) (by kernel_rfl) ?_
                  simp only [List.take_succ_cons, List.take_zero, List.drop_succ_cons, List.drop_zero]
                  repeat still_step
                  try refine wpStill_nil ?_
                  go_wp2
                  have e1 : Value.int .i64 (((x : Int) + (y : Int)) % 4294967296) = iv ((x + y) % 4294967296) := congrArg (Value.int .i64) (by omega)
                  rw [e1]
                  refine ⟨⟨m + 1, by omega, by go_num, hid ?_, hid (ownsRow_setCell_below HV.out (a := ⟨kb + 1, m, none⟩) (by show kb + 1 < vb; omega) _), hid ((heap_setCell_other wr ⟨kb + 1, m, none⟩ _ _ (by simp)).trans HK.out), hid ((heap_setCell_other wr ⟨kb + 1, m, none⟩ _ _ (by simp; omega)).trans HG.out), hid ?_, hid (HBR.out.setCell (p := ⟨kb + 1, m, none⟩) (by show w.heap.size ≤ kb + 1; omega) _).drew⟩, by simp [intOf]; omega⟩
                  · rw [← HAS.out, ← List.setIfInBounds_toArray]
                    exact heap_setCell_same wr _ _ _ _ _ HH.out
                  · obtain ⟨z, hz, hz2⟩ := HZ.out
                    exact ⟨z, hz, (heap_setCell_other wr ⟨kb + 1, m, none⟩ _ _ (by simp; omega)).trans hz2⟩
                · have hm8 : m = 8 := by omega
                  have HH8 : Hid (wr.heap[kb + 1]? = some (.cells (works pd start (n + 1)).ints.toArray 3 (0, 0))) := hid (by rw [HQ.out, HSP.out, ← added_eight, ← hm8]; exact HH.out)
                  clear hm8 HH HV
                  go_wp2_with fail
                  refine ⟨⟨at' + 64, n + 1, by go_num, hat3, hid (by rw [HAT.out]; omega), HH8, HK, HG, HZ, HBR⟩, by simp [intOf]; omega⟩
        · have hn : n = L / 64 := by have := HAT.out; have := HPL0.out; omega
          replace HSHA : Hid (sha bs = (works pd start n).bytes) := hid (by rw [hn]; exact HSHA.out)
          have HBA := hid (bytes_at (works pd start n))
          have HNL := hid (nums_lt (works_ok pd start_ok n))
          have hbl := St.bytes_length (works pd start n)
          have HIA := hid (ints_at (works pd start n))
          have HWI : Hid (∀ i, (works pd start n).nums.getD i 0 = [(works pd start n).a, (works pd start n).b, (works pd start n).c, (works pd start n).d, (works pd start n).e, (works pd start n).f, (works pd start n).g, (works pd start n).h].getD i 0) := hid (fun _ => rfl)
          generalize (works pd start n).bytes = by32 at *
          generalize hst : works pd start n = st at *
          clear hst hn HSH HLL HPL0 HAT HK HG
          have hkw := block_lt HH.out
          have HB0 : Hid ((wr.alloc (.cells (List.replicate 32 (.int .u8 0)).toArray 26)).heap[wr.heap.size]? = some (.cells ((by32.take 0 ++ List.replicate (32 - 0) 0).map by8).toArray 26 (0, 0))) := hid (heap_alloc_new wr _)
          simp only [List.replicate_succ, List.replicate_zero] at HB0
          replace HH : Hid ((wr.alloc (.cells (List.replicate 32 (.int .u8 0)).toArray 26)).heap[kb + 1]? = some (.cells st.ints.toArray 3 (0, 0))) := hid ((heap_alloc_old wr _ hkw).trans HH.out)
          simp only [List.replicate_succ, List.replicate_zero] at HH
          replace HZ : Hid (∃ z : Array Value, z.size = 32 ∧ (wr.alloc (.cells (List.replicate 32 (.int .u8 0)).toArray 26)).heap[w.heap.size]? = some (.cells z 26 (0, 0))) := hid (by obtain ⟨z, hz, hz2⟩ := HZ.out; exact ⟨z, hz, (heap_alloc_old wr _ (by omega)).trans hz2⟩)
          simp only [List.replicate_succ, List.replicate_zero] at HZ
          replace HBR : Hid (Below w.heap.size w (wr.alloc (.cells (List.replicate 32 (.int .u8 0)).toArray 26))) := hid (HBR.out.alloc (by omega) _)
          simp only [List.replicate_succ, List.replicate_zero] at HBR
          go_wp2_with fail
          generalize World.alloc _ _ = w9 at *
          generalize wr.heap.size = sb at *
          go_loopw [17] (fun i wa => ∃ (k : Nat), k ≤ 32 ∧ i = .int .i64 k ∧ Hid (wa.heap[sb]? = some (.cells ((by32.take k ++ List.replicate (32 - k) 0).map by8).toArray 26 (0, 0))) ∧ Hid (wa.heap[kb + 1]? = some (.cells st.ints.toArray 3 (0, 0))) ∧ Hid (∃ z : Array Value, z.size = 32 ∧ wa.heap[w.heap.size]? = some (.cells z 26 (0, 0))) ∧ Hid (Below w.heap.size w wa)) (fun i _ => 32 - (intOf i).toNat)
          case atStart => exact ⟨0, Nat.zero_le _, rfl, HB0, HH, HZ, HBR⟩
          case round =>
            clear HB0 HH HZ HBR
            obtain ⟨k, hk, rfl, HR, HH, HZ, HBR⟩ := hrel
            by_cases hlt3 : k < 32
            · have hc1 : wr.cell? ⟨kb + 1, k / 4, none⟩ = some (.int .i64 ((st.nums.getD (k / 4) 0 : Nat) : Int)) := (cell_of_row wr _ (k / 4) _ _ _ HH.out).trans (by rw [List.getElem?_toArray]; exact HIA.out (k / 4) (by omega))
              have hfz : wr.frozen? ⟨sb, k, none⟩ = false := frozen_of_row wr _ _ _ _ HR.out
              have hc2 := (cell_of_row wr _ _ _ _ _ HR.out).trans (fill_cell by32 32 k hbl hlt3)
              have HS := hid (HBA.out k hlt3)
              rw [← HWI.out] at HS
              have hwl := HNL.out (k / 4)
              have x4 : (k : Int) < 32 := by omega
              generalize st.nums.getD (k / 4) 0 = x at *
              go_wp2
              rw [show 24 - 8 * (k % 4) = 8 * (3 - k % 4) by omega, by8_shr]
              refine ⟨⟨k + 1, by omega, by go_num, hid ?_, hid ((heap_setCell_other wr ⟨sb, k, none⟩ _ _ (by simp; omega)).trans HH.out), hid ?_, hid (HBR.out.setCell (p := ⟨sb, k, none⟩) (by show w.heap.size ≤ sb; omega) _)⟩, by simp [intOf]; omega⟩
              · rw [← fill_step by32 32 k hbl hlt3 _ HS.out]
                exact heap_setCell_same wr _ _ _ _ _ HR.out
              · obtain ⟨z, hz, hz2⟩ := HZ.out
                exact ⟨z, hz, (heap_setCell_other wr ⟨sb, k, none⟩ _ _ (by simp; omega)).trans hz2⟩
            · have hk32 : k = 32 := by omega
              obtain ⟨A, hA⟩ : ∃ A, A = (by32.map by8).toArray := ⟨_, rfl⟩
              have r2 := HR.out
              rw [hk32, show by32.take 32 ++ List.replicate (32 - 32) 0 = by32 by rw [List.take_of_length_le (by omega)]; simp, ← hA] at r2
              have hAs : A.size = 32 := by rw [hA]; simpa using hbl
              have hA1 : A.all (·.oneCell') = true := by rw [hA]; simp [by8, Value.oneCell']
              obtain ⟨z, hz, hz2⟩ := HZ.out
              have HA := hid hA
              have HR2 := hid r2
              have HR1 := hid hz2
              have HI := hid (show (Tryd.prog.info? 26).map (·.size) = some A.size by rw [hAs]; kernel_rfl)
              have HZS := hid (show z.size = A.size from hz.trans hAs.symm)
              clear hk32 hA r2 hAs hbl HR HZ hz hz2 HIA HBA HNL HWI HH
              go_wp2_with (first
                | (refine wpList_load_row rfl 26 (.tmp 16) rfl sb rfl 26 A (0, 0) _ HR2.out Tryd.underlying26 rfl HI.out ?_)
                | (refine wpList_store_row rfl 26 (.tmp 2) (.tmp 186) rfl w.heap.size A rfl rfl 26 _ HR1.out HI.out HZS.out hA1 ?_)
                | (refine bodyPost_ret (v := .agg A) (results_cell_row rfl _ _ w.heap.size 26 A (0, 0) _ rfl (setRow_heap _ _ _ _ _ _ HR1.out) Tryd.underlying26 rfl HI.out) rfl ⟨by rw [HA.out, HSHA.out], below_setRow HBR.out (Nat.le_refl _) _⟩))
end Go.Proofs.YtomfhihhhfelfaaDoor
