/- The walk of BtreeGets. -/
import Derived.Test.YtjfipejfejmlaaaBtRow
import Derived.Test.YtjfipejfejmlaaaBtSmall
namespace Go.Proofs.Ytjfipejfejmlaaa
open Go.RowKit Go.Shelf
set_option linter.unusedVariables false
set_option linter.unusedSimpArgs false
set_option maxRecDepth 20000

theorem hit_put (L : List Ent) (hr : Tri.Rises L) (e : Ent) : hitK (putL L e) e.1 = true := by
  rw [← lookL_isSome, look_put L hr]; rfl

theorem hit_del (L : List Ent) (hr : Tri.Rises L) (key : List UInt8) : hitK (delL L key) key = false := by
  rw [← lookL_isSome, look_del L hr]; rfl

theorem gets_other (L : List Ent) (hr : Tri.Rises L) (key val other : List UInt8) (hne : other ≠ key) : hitK (delL (putL L (key, val)) key) other = hitK L other ∧ lookL (delL (putL L (key, val)) key) other = lookL L other := by
  have h : lookL (delL (putL L (key, val)) key) other = lookL L other := by
    rw [look_del_other _ (putL_rises L hr _) key other hne, look_put_other L hr (key, val) other hne]
  exact ⟨by rw [← lookL_isSome, ← lookL_isSome, h], h⟩

theorem getD_fine {L : List Ent} (hf : ∀ e ∈ L, Fine e) (hr : Tri.Rises L) (key : List UInt8) : ((lookL L key).getD []).length ≤ 140737488351232 := by
  cases h : lookL L key with
  | none => simp
  | some v => exact (hf _ ((lookL_some L hr key v).1 h)).2

set_option maxHeartbeats 16000000 in
theorem gets_law {BT : (Nat → Prop) → World → Nat → List (List Ent) → Nat → Prop} (HA : Api BT) (v kv vv ov : Value) (xs : List ActB) (key val other : List UInt8) (w : World) (h1 : ActsB w.heap.size w v xs) (h2 : Lent8 w.heap.size w kv key) (h3 : Lent8 w.heap.size w vv val) (h4 : Lent8 w.heap.size w ov other) :
    Calls Try.prog 7 #[v, kv, vv, ov] w fun e w' => e = .returned (.bool true) ∧ Below w.heap.size w w' := by
  obtain ⟨a1, c1', rfl, hc1, hc1', _⟩ := id h1
  obtain ⟨a2, c2', rfl⟩ := h2.form
  obtain ⟨a3, c3', rfl⟩ := h3.form
  obtain ⟨a4, c4', rfl⟩ := h4.form
  unfold maxLen at hc1'
  have HX := hid h1
  have HS : Hid (∀ W, Below w.heap.size w W → Says W (.slice a2 key.length c2') key ∧ Says W (.slice a3 val.length c3') val ∧ Says W (.slice a4 other.length c4') other) := hid (fun W hW => ⟨h2.says hW hW.size, h3.says hW hW.size, h4.says hW hW.size⟩)
  have HFN : Hid (Fine (key, val)) := hid ⟨h2.2, h3.2⟩
  have hkl := h2.2
  clear h1 h2 h3 h4
  obtain ⟨i0, hi, hz0, hz1, hz2⟩ := info_parts Try.infoU8
  go_enter Try.func7, Try.ntmps7
  go_wp2_with fail
  refine (small_any HA w).mono ?_
  rintro e w1 ⟨rfl, hb1⟩
  have HB1 := hid hb1
  clear hb1
  have HM := hid (made_any HA _ xs w.heap.size w1 HB1.out.size (HX.out.below HB1.out))
  go_wp2_with fail
  refine HM.out.mono ?_
  clear HM
  rintro e w2 ⟨tb, L, rfl, R2, hL, hb2⟩
  have HR2 := hid (HA.ltL R2)
  have HRS := hid (HA.rises R2)
  have HFI := hid (HA.fine R2)
  have hz12 := hb2.size
  have HB2 := htr HB1 hb2
  clear R2 hb2
  have HG := hid (HA.getB _ other HR2.out (HS.out _ HB2.out).2.2 (by omega))
  go_wp2_with fail
  refine HG.out.mono ?_
  clear HG
  rintro e w3 ⟨v3, rfl, k3, hb3⟩
  obtain ⟨ho, hho⟩ : ∃ r, hitK L other = r := ⟨_, rfl⟩
  rw [hho]
  have HHO := hid hho
  obtain ⟨was, hwas⟩ : ∃ r, (lookL L other).getD [] = r := ⟨_, rfl⟩
  rw [hwas] at k3
  have HWAS := hid hwas
  have hwl : was.length ≤ 140737488351232 := by rw [← hwas]; exact getD_fine HFI.out HRS.out other
  obtain ⟨aw, cw, rfl⟩ := k3.form
  have hz23 := hb3.size
  have HW3 : Hid (Says w3 (.slice aw was.length cw) was ∧ InS (fun i => w2.heap.size ≤ i ∧ i < w3.heap.size) (.slice aw was.length cw)) := hid ⟨k3.says, fun g hg => k3.lt g hg⟩
  have HR3 : Hid (BL BT (area w1.heap.size w2.heap.size w3.heap.size) w3 tb L) := hid ((HA.newL HR2.out hb3).mono (fun i hi => ⟨hi.1, .inl hi.2⟩))
  have HB3 := htr HB2 hb3
  clear hho hwas k3 hb3 HR2
  have HC := hid (HA.countB HR3.out (by omega))
  go_wp2_with fail
  refine HC.out.mono ?_
  clear HC
  rintro e w4 ⟨rfl, hb4⟩
  have HG := hid (HA.getB _ key (HA.newL HR3.out hb4) (HS.out _ (HB3.out.trans (hb4.mono HB3.out.size))).1 (by omega))
  have HQ4 := hid hb4
  have hz34 := hb4.size
  clear hb4
  go_wp2_with fail
  refine HG.out.mono ?_
  clear HG
  rintro e w5 ⟨v5, rfl, k5, hb5⟩
  obtain ⟨a5, c5, rfl⟩ := k5.form
  have hz45 := hb5.size
  have HQ5 := hid (HQ4.out.trans (hb5.mono hz34))
  have HB5 := hid (HB3.out.trans (HQ5.out.mono HB3.out.size))
  have HR5 := hid (HA.newL HR3.out HQ5.out)
  have HW5 := hid (HW3.out.1.new HQ5.out)
  have HWI := hid HW3.out.2
  clear k5 hb5 HQ4 HQ5 HR3 HB3 HW3
  have HP := hid (HA.putB _ _ key val HR5.out (fun i hi => ⟨by omega, .inr (by omega)⟩) (HS.out _ HB5.out).1 (HS.out _ HB5.out).2.1 HFN.out (by omega))
  have HLN := hid (putL_length L (key, val))
  have HHP := hid (hit_put L HRS.out (key, val))
  have HLP := hid (look_put L HRS.out (key, val))
  have HRP := hid (putL_rises L HRS.out (key, val))
  have HOT := hid (fun hne => gets_other L HRS.out key val other hne)
  obtain ⟨L', hL'⟩ : ∃ L', putL L (key, val) = L' := ⟨_, rfl⟩
  rw [hL'] at HP HLN HHP HLP HRP HOT
  clear hL'
  simp only at HLN HHP HLP
  obtain ⟨th, hth⟩ : ∃ r, hitK L key = r := ⟨_, rfl⟩
  rw [hth] at HP HLN ⊢
  clear hth
  go_wp2_with fail
  refine HP.out.mono ?_
  clear HP
  rintro e w6 ⟨rfl, R6, hs6⟩
  have hz56 := hs6.size
  have HR6 := hid R6
  have HB6 := hid (HB5.out.trans (hs6.below (B := w.heap.size) (fun i hi => by have := hi.1; have := HB1.out.size; omega) HB5.out.size))
  have HW6 := hid (HW5.out.keep HWI.out hs6 (fun i hi e => by have := e.2; omega))
  clear R6 hs6 HR5 HW5 HB5
  have hl6 : L'.length ≤ 81 := by have := HLN.out; split at this <;> omega
  have HG := hid (HA.getB _ key HR6.out (HS.out _ HB6.out).1 (by omega))
  rw [HHP.out, HLP.out] at HG
  go_wp2_with fail
  refine HG.out.mono ?_
  clear HG
  rintro e w7 ⟨v7, rfl, k7, hb7⟩
  simp only [Option.getD_some] at k7
  obtain ⟨a7, c7, rfl⟩ := k7.form
  have hz67 := hb7.size
  have HB7 := htr HB6 hb7
  have HR7 := hid (HA.newL HR6.out hb7)
  have HW7 := hid (HW6.out.new hb7)
  have HV7 := hid k7.says
  clear k7 hb7 HR6 HW6 HB6
  have HCN : Hid (Calls Try.prog 13 #[.pointer (some ⟨tb, 0, none⟩)] w7 fun e w' => e = .returned (.int .i64 (L'.length : Nat)) ∧ Below w7.heap.size w7 w') := hid (HA.countB HR7.out (by omega))
  have s1 := str4 HV7.out
  have s2 := str4 (HS.out _ HB7.out).2.1
  go_upto_region 10 with fail
  go_cut [91] from 58 to 91 (fun u91 wx => u91 = .bool false ∧ Hid (Below w7.heap.size w7 wx))
  case first =>
    have hwa : IntKind.i64.wrap ((L.length : Int) + 1) = (L.length : Int) + 1 := by rw [IntKind.wrap_i64]; omega
    cases th with
    | true =>
      have hln : L'.length = L.length := by have := HLN.out; simpa using this
      rw [hln] at HCN
      clear hln
      have hnn : ((L.length : Int) != (L.length : Int)) = false := by simp
      go_wp2_with fail
      refine HCN.out.mono ?_
      clear HCN
      rintro e w8 ⟨rfl, hb8⟩
      have HB8 := hid hb8
      clear hb8
      go_wp2
      go_meet
      case rel => exact ⟨rfl, HB8⟩
    | false =>
      have hln : L'.length = L.length + 1 := by have := HLN.out; simpa using this
      rw [hln] at HCN
      clear hln
      have hnn : (((L.length + 1 : Nat) : Int) != (L.length : Int) + 1) = false := by simp
      go_wp2_with fail
      refine HCN.out.mono ?_
      clear HCN
      rintro e w8 ⟨rfl, hb8⟩
      have HB8 := hid hb8
      clear hb8
      go_wp2
      go_meet
      case rel => exact ⟨rfl, HB8⟩
  case rest =>
    obtain ⟨rfl, HQ8⟩ := hcut
    generalize hw8 : wc = w8 at *
    clear hw8
    have hz78 := HQ8.out.size
    have HR8 := hid (HA.newL HR7.out HQ8.out)
    have HW8 := hid (HW7.out.new HQ8.out)
    have HB8 := hid (HB7.out.trans (HQ8.out.mono HB7.out.size))
    clear s1 s2 HCN HV7 HR7 HW7 HB7 HQ8
    have HD := hid (HA.deleteB _ key HR8.out (fun i hi => ⟨by omega, .inr (by omega)⟩) (HS.out _ HB8.out).1 (by omega))
    rw [HHP.out] at HD
    have HDL := hid (delL_few L' key)
    have HHD := hid (hit_del L' HRP.out key)
    have HGN := hid (rangeL_gone L' HRP.out key)
    have HRD := hid (delL_rises L' HRP.out key)
    obtain ⟨L2, hL2⟩ : ∃ L2, delL L' key = L2 := ⟨_, rfl⟩
    rw [hL2] at HD HDL HHD HGN HOT HRD
    clear hL2
    go_wp2_with fail
    refine HD.out.mono ?_
    clear HD
    rintro e w9 ⟨rfl, R9, hs9⟩
    have hz89 := hs9.size
    have HR9 := hid R9
    have HB9 := hid (HB8.out.trans (hs9.below (B := w.heap.size) (fun i hi => by have := hi.1; have := HB1.out.size; omega) HB8.out.size))
    have HW9 := hid (HW8.out.keep HWI.out hs9 (fun i hi e => by have := e.2; omega))
    clear R9 hs9 HR8 HW8 HB8
    have hl9 : L2.length ≤ 81 := by have := HDL.out; omega
    have HG := hid (HA.getB _ key HR9.out (HS.out _ HB9.out).1 (by omega))
    rw [HHD.out] at HG
    go_wp2_with fail
    refine HG.out.mono ?_
    clear HG
    rintro e v1 ⟨u1, rfl, k1, hb1⟩
    obtain ⟨d1, e1, rfl⟩ := k1.form
    have hy1 := hb1.size
    have HQ1 := hid hb1
    clear k1 hb1
    have HG := hid (HA.getB _ other (HA.newL HR9.out HQ1.out) (HS.out _ (HB9.out.trans (HQ1.out.mono HB9.out.size))).2.2 (by omega))
    obtain ⟨hh, hhh⟩ : ∃ r, hitK L2 other = r := ⟨_, rfl⟩
    rw [hhh] at HG
    obtain ⟨now, hnow⟩ : ∃ r, (lookL L2 other).getD [] = r := ⟨_, rfl⟩
    rw [hnow] at HG
    have HNO : Hid (other ≠ key → hh = ho ∧ now = was) := hid (fun hne => by
      obtain ⟨q1, q2⟩ := HOT.out hne
      exact ⟨by rw [← hhh, q1, HHO.out], by rw [← hnow, q2, HWAS.out]⟩)
    clear hhh hnow
    go_wp2_with fail
    refine HG.out.mono ?_
    clear HG
    rintro e v2 ⟨u2, rfl, k2, hb2⟩
    obtain ⟨d2, e2, rfl⟩ := k2.form
    have HQ2 := hid (HQ1.out.trans (hb2.mono hy1))
    have hy2 := HQ2.out.size
    have HN2 := hid k2.says
    have HB2' := hid (HB9.out.trans (HQ2.out.mono HB9.out.size))
    have HR2' := hid (HA.newL HR9.out HQ2.out)
    have HW2' := hid (HW9.out.new HQ2.out)
    clear k2 hb2 HQ1 HQ2 HR9 HW9 HB9
    have HSK : Hid (Shows (v2.alloc (.cells #[] 5)).heap.size (v2.alloc (.cells #[] 5)) (.slice a2 key.length c2') key) := hid ((HS.out _ HB2'.out).1.new (new_alloc _ _))
    have hbb : v2.heap.size ≤ (v2.alloc (.cells #[] 5)).heap.size := by simp
    go_wp2_with (first
      | (at_builtin; refine wpList_append_shows _ rfl (.tmp 109) (.tmp 110) 30 rfl v2.heap.size 5 i0 Try.underlying30 hi hz0 hz1 hz2 _ 0 [] rfl (World.ownsRow_made v2 #[] 0 (Nat.le_refl _) (by unfold maxLen; omega) rfl) _ _ key rfl HSK.out ?d1 ?d2 ?_))
    case d1 => omega
    case d2 => exact hbb
    intro vA wA oA gA _
    obtain ⟨aA, cA, rfl⟩ := row_form oA
    try simp only [Nat.zero_add, List.nil_append] at oA
    try simp only [Nat.zero_add]
    have HO := hid oA
    have HBA : Hid (Below v2.heap.size v2 wA) := hid (((Below.refl _ _).alloc (Nat.le_refl _) _).grown gA (by simp) (fun q hq => by have hq' : some v2.heap.size = some q := hq; cases hq'; exact Nat.le_refl _))
    clear oA gA HSK hbb
    have HO1 := hid ((Spares.of_new (S := fun _ => False) (new_alloc wA (.cells #[.int .u8 0] 5))).row HO.out (fun _ _ => id))
    have HS0 : Hid (Shows (wA.alloc (.cells #[.int .u8 0] 5)).heap.size (wA.alloc (.cells #[.int .u8 0] 5)) (.slice (some ⟨wA.heap.size, 0, none⟩) 1 1) [0]) := hid (says_one wA 0 5 (0, 0))
    have hbb : v2.heap.size ≤ (wA.alloc (.cells #[.int .u8 0] 5)).heap.size := by have := HBA.out.size; simp; omega
    go_wp2_with (first
      | (at_builtin; refine wpList_append_shows _ rfl (.tmp 111) (.tmp 112) 30 rfl v2.heap.size 5 i0 Try.underlying30 hi hz0 hz1 hz2 _ key.length (key.map by8) rfl HO1.out _ _ [0] rfl HS0.out ?d1 ?d2 ?_))
    case d1 => simp; omega
    case d2 => exact hbb
    intro vB wB oB gB _
    obtain ⟨aB, cB, rfl⟩ := row_form oB
    have HBB : Hid (Below v2.heap.size v2 wB) := hid ((HBA.out.alloc HBA.out.size _).grown gB hbb (fun q hq => (HO.out.lt q hq).1))
    have hTB : Says wB (.slice aB (key.length + 1) cB) (key ++ [0]) := (shows_of_owns (n := key.length + 1) (bs := key ++ [0]) (by simpa using oB)).2
    have HBW := hid (HB2'.out.trans (HBB.out.mono HB2'.out.size))
    have HRG := hid (HA.rangeB _ _ key (key ++ [0]) true (HA.newL HR2'.out HBB.out) (HS.out _ HBW.out).1 hTB (by omega))
    have HWB := hid (HW2'.out.new HBB.out)
    have HNB := hid (HN2.out.new HBB.out)
    rw [HGN.out] at HRG
    try simp only [List.length_singleton]
    clear oB gB HO HO1 HS0 hbb hTB HBA HR2' HW2' HN2 HBB HB2'
    go_wp2_with fail
    refine HRG.out.mono ?_
    clear HRG
    rintro e v3 ⟨sv, es, rfl, q1, q2, hb3⟩
    have hes : es = [] := List.map_eq_nil_iff.1 q2
    subst hes
    obtain ⟨⟨a9, c9, rfl⟩, _⟩ := row_form2 q1.row
    have HB3 := htr HBW hb3
    have s1 := str4 (HS.out _ HB3.out).2.2
    have s2 := str4 (HS.out _ HB3.out).1
    have s3 := str4 (HWB.out.new hb3)
    have s4 := str4 (HNB.out.new hb3)
    clear q1 q2 hb3 HWB HNB HBW
    by_cases hne : other = key
    · subst hne
      go_wp2
      go_ret
      exact ⟨rfl, HB3.out⟩
    · obtain ⟨rfl, rfl⟩ := HNO.out hne
      have hne2 : ¬ (str8 other).toList = (str8 key).toList := by rw [str8_toList, str8_toList]; exact hne
      have hne1 : ((str8 other).toList == (str8 key).toList) = false := by simpa using hne2
      have hbb : ∀ b : Bool, (b == b) = true := fun b => by cases b <;> rfl
      have hhb := hbb hh
      go_wp2
      go_ret
      exact ⟨rfl, HB3.out⟩
end Go.Proofs.Ytjfipejfejmlaaa
