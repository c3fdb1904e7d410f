/- For every int, string, list of slices of bytes and slice of bytes, PlainBack returns true. -/
import Derived.Test.YtknanockidellaaRefR
import Derived.Test.YtknanockidellaaBackF
import Derived.Deep.RegionHeld
namespace Go.Proofs.Ytknanockidellaa
open Go.RowKit
set_option linter.unusedVariables false

/-- A number's bytes, and its key's. -/
def numBytes (n : Int) : List UInt8 := be (u64of n) 8
def keyBytes (n : Int) : List UInt8 := be (u64of (n + 9223372036854775808)) 8

set_option maxRecDepth 100000 in
set_option maxHeartbeats 2000000 in
theorem back_long (n : Int) (s : ByteArray) (vl vb : Value) (bs : List UInt8) (w : World) (hsh : Shows w.heap.size w vb bs) (hs : s.size ≤ 9223372036854775807) (h : 1048576 < bs.length ∨ 1048576 < s.size) :
    Calls Try.prog 7 #[.int .i64 n, .string s, vl, vb] w fun e w' => e = .returned (.bool true) ∧ Below w.heap.size w w' := by
  obtain ⟨a, c, rfl, h1, h2, hn, h3⟩ := hsh
  unfold maxLen at h2
  go_enter Try.func7, Try.ntmps7
  go_wp2_with fail
  refine (small_any w).mono ?_
  rintro e w1 ⟨rfl, hb1⟩
  by_cases hb : 1048576 < bs.length
  · go_wp2
    go_ret
    exact ⟨rfl, hb1⟩
  · have hs2 : 1048576 < s.size := by omega
    go_wp2
    go_ret
    exact ⟨rfl, hb1⟩

theorem str8_data (s : ByteArray) : str8 s.data.toList = s := by
  cases s
  simp [str8]

theorem str8_list (u : List UInt8) : (str8 u).data.toList = u := by simp [str8]
theorem str8_size' (u : List UInt8) : (str8 u).size = u.length := by simp [str8, ByteArray.size]

theorem tkey_ge (u : List UInt8) : u.length ≤ (tkey u).length := by
  rw [tkey, List.length_append]
  have : u.length ≤ (escs u).length := by
    induction u with
    | nil => simp
    | cons c u ih =>
      have h : 1 ≤ (esc c).length := by unfold esc; split <;> simp
      simp [escs] at ih ⊢
      omega
  omega

set_option maxRecDepth 100000 in
set_option maxHeartbeats 8000000 in
theorem back_short (n : Int) (s : ByteArray) (vl : Value) (rows : List (List UInt8)) (ab : Option Addr) (cb : Nat) (bs : List UInt8) (w : World) (hn : Hid (-9223372036854775808 ≤ n ∧ n ≤ 9223372036854775807)) (hr : Lists w.heap.size w vl rows) (hsh : Shows w.heap.size w (.slice ab bs.length cb) bs) (hs : s.size ≤ 1048576) (hl : bs.length ≤ 1048576) :
    Calls Try.prog 7 #[.int .i64 n, .string s, vl, .slice ab bs.length cb] w fun e w' => e = .returned (.bool true) ∧ Below w.heap.size w w' := by
  obtain ⟨i0, hi, hz0, hz1, hz2⟩ := info_parts Try.infoU8
  have HB := hid hsh
  have HR := hid hr
  have HT1 := hid (tnum_num n bs hn.out.1 hn.out.2)
  have HT2 := hid (tnum_key n bs hn.out.1 hn.out.2)
  have HT3 := hid (ttext_tkey bs s.data.toList)
  have hkl : (tkey s.data.toList).length ≤ 2097154 := by
    have h1 := escs_le s.data.toList
    have h2 : s.data.toList.length = s.size := by rw [Array.length_toList]; rfl
    rw [tkey, List.length_append]
    simp only [List.length_cons, List.length_nil]
    omega
  clear hsh hr
  go_enter Try.func7, Try.ntmps7
  go_wp2_with fail
  refine (small_any w).mono ?_
  rintro e w1 ⟨rfl, hb1⟩
  have hs1 := hb1.size
  go_wp2_with fail
  refine (num_any n w1).mono ?_
  rintro e w2 ⟨v2, rfl, hown2, hbel2⟩
  have hs2 := hbel2.size
  have hb2 := hb1.trans (hbel2.mono hs1)
  have hB2 := HB.out.below hb2
  go_wp2_with (first | (at_builtin; refine wpList_append_shows _ rfl (.tmp 44) (.tmp 45) 22 rfl w1.heap.size 5 i0 Try.underlying22 hi hz0 hz1 hz2 _ _ _ rfl hown2 w.heap.size _ bs rfl hB2 (by omega) (by omega) ?_; intro v3 w3 hown3 hg3 hnx; clear hnx) | fail)
  have hb3 := hb2.grown hg3 (by omega) (fun q hq => Nat.le_trans hs1 (hown2.lt q hq).1)
  rw [← List.map_append] at hown3
  have HC1 := hid (takeNum_any w3.heap.size v3 _ w3 (shows_of_owns hown3).2)
  rw [HT1.out] at HC1
  clear hown2 hbel2 hB2 hown3 hg3 hb1 hb2
  refine HC1.out.mono ?_
  rintro e w4 ⟨rfl, rfl⟩
  have hs4 := hb3.size
  go_wp2_with fail
  refine (numKey_any n w4).mono ?_
  rintro e w5 ⟨v5, rfl, hown5, hbel5⟩
  have hs5 := hbel5.size
  have hb5 := hb3.trans (hbel5.mono hs4)
  have hB5 := HB.out.below hb5
  have HO5 : Hid (w5.ownsRow w4.heap.size 5 1 v5 8 ((keyBytes n).map by8)) := hown5
  clear hown5
  go_wp2_with (first | (at_builtin; refine wpList_append_shows _ rfl (.tmp 53) (.tmp 54) 22 rfl w4.heap.size 5 i0 Try.underlying22 hi hz0 hz1 hz2 _ _ _ rfl HO5.out w.heap.size _ bs rfl hB5 (by omega) (by omega) ?_; intro v6 w6 hown6 hg6 hnx; clear hnx) | fail)
  have hb6 := hb5.grown hg6 (by omega) (fun q hq => Nat.le_trans hs4 (HO5.out.lt q hq).1)
  rw [← List.map_append] at hown6
  have HC2 := hid (takeNumKey_any w6.heap.size v6 _ w6 (shows_of_owns hown6).2)
  rw [show keyBytes n ++ bs = be (u64of (n + 9223372036854775808)) 8 ++ bs from rfl, HT2.out] at HC2
  clear hbel5 hB5 hown6 hg6 hb3 hb5 HO5 HT1 HT2
  refine HC2.out.mono ?_
  rintro e w7 ⟨rfl, rfl⟩
  have hs7 := hb6.size
  go_wp2_with fail
  refine (textKey_any s w7 (by omega)).mono ?_
  rintro e w8 ⟨v8, rfl, hown8, hbel8⟩
  have hs8 := hbel8.size
  have hb8 := hb6.trans (hbel8.mono hs7)
  have hB8 := HB.out.below hb8
  go_wp2_with (first | (at_builtin; refine wpList_append_shows _ rfl (.tmp 62) (.tmp 63) 22 rfl w7.heap.size 5 i0 Try.underlying22 hi hz0 hz1 hz2 _ _ _ rfl hown8 w.heap.size _ bs rfl hB8 (by omega) (by omega) ?_; intro v9 w9 hown9 hg9 hnx; clear hnx) | fail)
  have hb9 := hb8.grown hg9 (by omega) (fun q hq => Nat.le_trans hs7 (hown8.lt q hq).1)
  rw [← List.map_append] at hown9
  have HC3 := hid (takeText_any w9.heap.size v9 _ w9 (Nat.le_refl _) (shows_of_owns hown9).2 (by simp; omega))
  rw [HT3.out] at HC3
  clear hbel8 hB8 hown9 hg9 hb6 hb8 HT3 HC1 HC2 hown8
  refine HC3.out.mono ?_
  rintro e w10 ⟨rfl, hbel10⟩
  have hs9 := hb9.size
  have hb10 := hb9.trans (hbel10.mono hs9)
  rw [show str8 (0, s.data.toList, (tkey s.data.toList).length).2.1 = s from str8_data s]
  have HK := hid (fun wx => textKey_any s wx (by omega))
  generalize tkey s.data.toList = K at *
  have hs10 := hb10.size
  clear HC3 hbel10 hb9
  go_wp2_with fail
  refine (HK.out w10).mono ?_
  rintro e w11 ⟨v11, rfl, hown11, hbel11⟩
  have hb11 := hb10.trans (hbel11.mono hs10)
  obtain ⟨a11, c11, rfl⟩ := own_form hown11
  have hs11 := hb11.size
  clear hown11 hbel11 hb10
  go_wp2_with fail
  refine (row_any w.heap.size vl rows w11 hs11 (HR.out.below hb11)).mono ?_
  rintro e w12 ⟨v12, rfl, hown12, hbel12⟩
  have hb12 := hb11.trans (hbel12.mono hs11)
  have hs12 := hb12.size
  have hs1112 := hbel12.size
  obtain ⟨a12, c12, rfl⟩ := own_form hown12
  have HO12 := hid hown12
  clear hown12 hbel12 hb11
  go_upto_if 115 with fail
  go_cut [19, 20] (fun u19 u20 wx => Below w.heap.size w wx)
  case first =>
    by_cases hz : (rowOf rows).1 = 0
    · obtain ⟨hl1, hl2, hro⟩ := rowOf_ok rows hz
      have HTR := hid (trow_row rows bs hl1 hl2)
      have hrl : (rowBytes rows).length ≤ 268451844 := by
        have h1 := wide_le rows hl2
        rw [rowBytes, List.length_append, be_length, blobs_length]
        omega
      rw [hro] at HO12 ⊢
      have hsh12 := (shows_of_owns HO12.out).2
      have HS12 := hid hsh12
      clear hro hz hsh12 hl2
      simp only at HO12 HS12 ⊢
      generalize rowBytes rows = RB at *
      go_wp2_with (first
        | (at_builtin; refine wpList_append_shows _ rfl (.tmp 117) (.tmp 118) 22 rfl w12.heap.size 5 i0 Try.underlying22 hi hz0 hz1 hz2 _ 0 [] rfl (World.ownsRow_made w12 #[] 0 (Nat.le_refl _) (by unfold maxLen; omega) rfl) w12.heap.size _ RB rfl (HS12.out.alloc (Nat.le_refl _) _) (by omega) (by simp) ?_; intro vA wA hownA hgA hnx; clear hnx; have hbA : Below w12.heap.size w12 wA := ((Below.refl _ _).alloc (Nat.le_refl _) _).grown hgA (by simp) (fun q hq => by have hq' : some w12.heap.size = some q := hq; cases hq'; exact Nat.le_refl _); have hbwA := hb12.trans (hbA.mono hs12); have hsA := hbA.size; have HBA := hid (HB.out.below hbwA); simp only [Nat.zero_add, List.nil_append] at hownA)
        | (at_builtin; refine wpList_append_shows _ rfl (.tmp 119) (.tmp 120) 22 rfl w12.heap.size 5 i0 Try.underlying22 hi hz0 hz1 hz2 _ _ _ rfl hownA w.heap.size _ bs rfl HBA.out (by omega) (by omega) ?_; intro vB wB hownB hgB hnx; clear hnx)
        | fail)
      have hbB : Below w12.heap.size w12 wB := hbA.grown hgB (by omega) (fun q hq => (hownA.lt q hq).1)
      have hbwB := hb12.trans (hbB.mono hs12)
      have hsB := hbwB.size
      rw [← List.map_append] at hownB
      have HC4 := hid (takeRow_any wB.heap.size vB _ wB (shows_of_owns hownB).2 (Nat.le_refl _))
      rw [HTR.out] at HC4
      clear hownA hownB hgA hgB hbA hbB HBA hbwA hsA HTR
      refine HC4.out.mono ?_
      rintro e wC ⟨vC, rfl, hrowsC, hbelC⟩
      have hbwC := hbwB.trans (hbelC.mono hsB)
      have hLC := lists_of_rowsAt hrowsC
      have HSR := hid (sameRows_any wC.heap.size w.heap.size vC vl rows wC hLC (HR.out.below hbwC))
      have hsC := hbwC.size
      clear HC4 hrowsC hLC hbelC hbwB
      go_wp2_with fail
      refine HSR.out.mono ?_
      rintro e wD ⟨rfl, hbelD⟩
      have hbwD := hbwC.trans (hbelD.mono hsC)
      clear HSR hbelD hbwC
      go_wp2_with fail
      go_meet
      case rel => exact hbwD
    · have hz2 : ((rowOf rows).1 : Int) = 2 := by
        rcases rowOf_err rows with h | h
        · exact absurd h hz
        · omega
      have hz' : (((rowOf rows).1 : Int) == 0) = false := by rw [beq_eq_false_iff_ne]; omega
      clear hz2 hz
      generalize rowOf rows = R at *
      go_wp2_with fail
      go_meet
      case rel => exact hb12
  case rest =>
    have hbc := hcut
    have hsc := hbc.size
    clear hb12 HO12 HR
    go_wp2_with fail
    refine (takeRow_any w.heap.size _ bs wc (HB.out.below hbc) hsc).mono ?_
    rintro e w13 ⟨v13, rfl, hrows13, hbel13⟩
    have hb13 := hbc.trans (hbel13.mono hsc)
    have hs13 := hb13.size
    have HLI := hid (lists_of_rowsAt hrows13)
    clear hrows13 hbel13 hbc
    go_upto_if 147 with fail
    go_cut [24, 25, 26] (fun u24 u25 u26 wx => Below w.heap.size w wx)
    case first =>
      by_cases hz : (trow bs).1 = 0
      · obtain ⟨t1, t2, t3⟩ := trow_back bs hz
        have HC5 := hid (row_any w13.heap.size v13 _ w13 (Nat.le_refl _) HLI.out)
        rw [t1] at HC5
        simp only at HC5
        rw [hz]
        rw [t3] at HC5
        generalize hmm : (trow bs).2.2 = m at *
        clear hmm
        obtain ⟨b0, off0, rfl⟩ : ∃ b off, ab = some ⟨b, off, none⟩ := by
          obtain ⟨a, c, e, _, _, _, h3⟩ := HB.out
          simp only [Value.slice.injEq] at e
          obtain ⟨b, off, e2, _⟩ := h3 (by intro e; rw [e] at hz; exact absurd hz (by decide))
          exact ⟨b, off, by rw [e.1]; exact e2⟩
        have hcb : bs.length ≤ cb := by
          obtain ⟨a, c, e, h, _⟩ := HB.out
          simp only [Value.slice.injEq] at e
          omega
        clear t1 t3 hz HLI
        go_wp2_with fail
        refine HC5.out.mono ?_
        rintro e w15 ⟨v15, rfl, hown15, hbel15⟩
        have hb15 := hb13.trans (hbel15.mono hs13)
        have e15 := fun nq => strs ((shows_of_owns hown15).2.drewN nq)
        have eb := fun nq => strs (((HB.out.below hb15).take m t2).drewN nq)
        have hm1 : (m : Int) ≤ (bs.length : Int) := by omega
        have hm0 : (0 : Int) ≤ (m : Int) := by omega
        clear hown15 hbel15 HC5
        have hmc : (m : Int) ≤ (cb : Int) := by omega
        generalize str8 (bs.take m) = sv at *
        go_wp2_with fail
        go_quiet (fail)
        go_wp2_with fail
        go_meet
        case rel => exact below_drewN hb15 _
      · have hz' : (((trow bs).1 : Int) == 0) = false := by rw [beq_eq_false_iff_ne]; omega
        generalize trow bs = T at *
        go_wp2_with fail
        go_meet
        case rel => exact hb13
    case rest =>
      have hbd := hcut
      have hsd := hbd.size
      clear hb13 HLI
      go_wp2_with fail
      refine (takeText_any w.heap.size _ bs _ hsd (HB.out.below hbd) (by omega)).mono ?_
      rintro e w14 ⟨rfl, hbel14⟩
      have hb14 := hbd.trans (hbel14.mono hsd)
      have hs14 := hb14.size
      clear hbel14 hbd
      by_cases hz : (ttext bs).1 = 0
      · obtain ⟨t2, t3⟩ := ttext_back bs hz
        obtain ⟨b0, off0, rfl⟩ : ∃ b off, ab = some ⟨b, off, none⟩ := by
          obtain ⟨a, c, e, _, _, _, h3⟩ := HB.out
          simp only [Value.slice.injEq] at e
          obtain ⟨b, off, e2, _⟩ := h3 (by intro e; rw [e] at hz; exact absurd hz (by decide))
          exact ⟨b, off, by rw [e.1]; exact e2⟩
        have hcb : bs.length ≤ cb := by
          obtain ⟨a, c, e, h, _⟩ := HB.out
          simp only [Value.slice.injEq] at e
          omega
        have hul := tkey_ge (ttext bs).2.1
        rw [t3] at hul
        have HK5 : Hid (∀ wx : World, Calls Try.prog 21 #[.string (str8 (ttext bs).2.1)] wx fun e w' => ∃ v', e = .returned v' ∧ w'.ownsRow wx.heap.size 5 1 v' (bs.take (ttext bs).2.2).length ((bs.take (ttext bs).2.2).map by8) ∧ Below wx.heap.size wx w') := fun wx => by
          have h := textKey_any (str8 (ttext bs).2.1) wx (by rw [str8_size']; simp at hul; omega)
          rw [str8_list, t3] at h
          exact h
        rw [hz]
        clear hul t3 hz
        generalize (ttext bs).2.2 = o at *
        generalize (ttext bs).2.1 = u at *
        have hm1 : (o : Int) ≤ (bs.length : Int) := by omega
        have hm0 : (0 : Int) ≤ (o : Int) := by omega
        have hmc : (o : Int) ≤ (cb : Int) := by omega
        have hst := ((HB.out.below hb14).take o t2).drew
        have HST := hid hst
        have eb := strs hst
        clear hst
        go_wp2_with fail
        go_region_held (fun wx => (convert 22 9 (.slice (some ⟨b0, off0, none⟩) o cb)).run Try.prog wx = .ok (.string (str8 (bs.take o))) wx) (first | exact eb | exact hrb | assumption)
          (first | (go_at_call 21; refine (HK5.out _).mono ?_; rintro e wa ⟨va, rfl, howna, hbela⟩; have hra := strs (shows_of_owns howna).2; have hrb := strs (HST.out.below (hbela.mono hs14)); have hbwa := hb14.drew.trans (hbela.mono hs14)))
        go_wp2
        go_ret
        exact ⟨rfl, hbwa⟩
      · have hz' : (((ttext bs).1 : Int) != 0) = true := by rw [bne_iff_ne]; omega
        generalize ttext bs = T at *
        clear hz
        go_wp2_with fail
        go_quiet (fail)
        go_wp2
        go_ret
        exact ⟨rfl, below_drewN hb14 _⟩

theorem back_law (n : Int) (s : ByteArray) (vl : Value) (rows : List (List UInt8)) (vb : Value) (bs : List UInt8) (w : World) (h0 : -9223372036854775808 ≤ n) (h1 : n ≤ 9223372036854775807) (hs : s.size ≤ 9223372036854775807) (hr : Lists w.heap.size w vl rows) (hsh : Shows w.heap.size w vb bs) :
    Calls Try.prog 7 #[.int .i64 n, .string s, vl, vb] w fun e w' => e = .returned (.bool true) ∧ Below w.heap.size w w' := by
  by_cases h : 1048576 < bs.length ∨ 1048576 < s.size
  · exact back_long n s vl vb bs w hsh hs h
  · have hsh0 := hsh
    obtain ⟨ab, cb, rfl, _⟩ := hsh
    exact back_short n s vl rows ab cb bs w ⟨h0, h1⟩ hr hsh0 (by omega) (by omega)
end Go.Proofs.Ytknanockidellaa
