/- The walk of BtreeRanges. -/
import Derived.Test.YtjfipejfejmlaaaBtRow
import Derived.Test.YtjfipejfejmlaaaBtSmall
import Derived.Test.YtjfipejfejmlaaaBtDocD
namespace Go.Proofs.Ytjfipejfejmlaaa
open Go.RowKit Go.Shelf
set_option linter.unusedVariables false
set_option linter.unusedSimpArgs false
set_option maxRecDepth 20000

theorem spanE_at (a b : List UInt8) (en : Bool) (xs : List EntV) (k : Nat) (x : EntV) (h : xs[k]? = some x) (hin : inSp a b en x.k = true) : (spanE a b en xs)[(spanE a b en (xs.take k)).length]? = some x := by
  have hk := (List.getElem?_eq_some_iff.1 h).1
  have hsp : xs = xs.take k ++ x :: xs.drop (k + 1) := by
    have e := (List.take_append_drop k xs).symm
    rw [List.drop_eq_getElem_cons hk, (List.getElem?_eq_some_iff.1 h).2] at e
    exact e
  have e : spanE a b en xs = spanE a b en (xs.take k) ++ x :: spanE a b en (xs.drop (k + 1)) := by
    conv => lhs; rw [hsp]
    simp only [spanE, List.filter_append, List.filter_cons, hin, if_true]
  rw [e, List.getElem?_append_right (Nat.le_refl _), Nat.sub_self]
  rfl

theorem wpList_append_noneW {ops : Array Oper} {rest : List Oper} {o : Oper} {a : Act} {Q : Exit → Act → World → Prop} (w : World) (hw : Region.wanted o (yielded ops a.tmps) = true) (s x : Operand)
    (ho : o.op = .call { callee := .builtin .append, args := #[s, x], argTypes := #[27, 27] })
    (base : Nat) (v : Value) (n : Nat) (xs : List Value) (hs : a.eval s = v) (hown : w.ownsRow base 46 2 v n xs) (hx : a.eval x = .slice none 0 0)
    (h : wpList Try.prog ops Q rest (a.put o.dst v) w) : wpList Try.prog ops Q (o :: rest) a w := by
  obtain ⟨i0, hi, _, _, _⟩ := info_parts Try.infoEntryZ
  have hrun := run_append_owned_none (P := Try.prog) (w := w) base 27 o.type 46 i0 2 Try.underlying27 hi v n xs hown
  unfold wpList
  rw [if_pos hw]
  refine Or.inl ?_
  unfold Oper.wp
  simp [execOp, ho, resolve, invoke, builtin, hs, hx, hrun, Result.andThen]
  exact h

/-- A row of entries is added at the end of another (where the operation is wanted). -/
theorem wpList_append_entsW {ops : Array Oper} {rest : List Oper} {o : Oper} {a : Act} {Q : Exit → Act → World → Prop} (w : World) (hw : Region.wanted o (yielded ops a.tmps) = true) (s x : Operand)
    (ho : o.op = .call { callee := .builtin .append, args := #[s, x], argTypes := #[27, 27] })
    (base : Nat) (v : Value) (n : Nat) (xs : List Value) (hs : a.eval s = v) (hown : w.ownsRow base 46 2 v n xs)
    (B : Nat) (vx : Value) (ys : List EntV) (hx : a.eval x = vx) (hsrc : Ents B w vx ys) (hnil : ∀ l c, vx = .slice none l c → c = 0)
    (hbytes : (n + ys.length) * 48 ≤ 140737488355328) (hbase : base ≤ w.heap.size)
    (h : ∀ v' w', w'.ownsRow base 46 2 v' (n + ys.length) (xs ++ ys.flatMap EntV.two) → w.grownBy w' v.ownBlock → wpList Try.prog ops Q rest (a.put o.dst v') w') : wpList Try.prog ops Q (o :: rest) a w := by
  obtain ⟨ax, cx, rfl, h1, h2, h3⟩ := id hsrc
  cases ax with
  | none =>
    have hc := hnil _ _ rfl
    have hv : ys = [] := List.eq_nil_of_length_eq_zero (by omega)
    subst hv
    subst hc
    refine wpList_append_noneW w hw s x ho base v n xs hs hown hx ?_
    exact h v w (by simpa using hown) (World.grownBy.refl w _)
  | some ad =>
    obtain ⟨i0, hi, hz0, hz1, hz2⟩ := info_parts Try.infoEntryZ
    obtain ⟨_, q1, q2⟩ := hsrc.cells
    unfold wpList
    rw [if_pos hw]
    refine Or.inl (wp_append_own w s x _ ho base 46 i0 _ 2 48 Try.underlying27 hi hz0 hz1 hz2 rfl (by decide) v n xs hs hown ad ys.length cx (ys.flatMap EntV.two) hx (two_length ys) q1 q2 (by unfold maxLen; omega) hbytes hbase ?_)
    intro v' w' ho' hg' _
    exact h v' w' ho' hg'

theorem row_nil {w : World} {B e n : Nat} {v : Value} {xs : List Value} {sz : Nat} (h : w.ownsRow B e sz v n xs) : ∀ l c, v = .slice none l c → c = 0 := fun l c hv => by
  rcases h.2 with ⟨rfl, _⟩ | ⟨g, cap, cur, rfl, _⟩
  · simp only [Value.slice.injEq] at hv; exact hv.2.2.symm
  · simp at hv

/-- A made row, of entries that lie already. -/
theorem ents_made {B : Nat} {w : World} {sv : Value} {ys : List EntV} (hr : w.ownsRow B 46 2 sv ys.length (ys.flatMap EntV.two)) (hs : ∀ y ∈ ys, Says w y.kv y.k ∧ Says w y.vv y.v) : Ents w.heap.size w sv ys :=
  (entsS_of (S := fun _ => True) hr (fun y hy => ⟨(hs y hy).1, (hs y hy).2, fun _ _ => trivial, fun _ _ => trivial⟩) (fun _ _ _ => trivial)).ents

set_option maxHeartbeats 16000000 in
theorem ranges_law {BT : (Nat → Prop) → World → Nat → List (List Ent) → Nat → Prop} (HA : Api BT) (v fv mv tv : Value) (xs : List ActB) (la lm lb : List UInt8) (w : World) (h1 : ActsB w.heap.size w v xs) (h2 : Lent8 w.heap.size w fv la) (h3 : Lent8 w.heap.size w mv lm) (h4 : Lent8 w.heap.size w tv lb) :
    Calls Try.prog 5 #[v, fv, mv, tv] w fun e w' => e = .returned (.bool true) ∧ Below w.heap.size w w' := by
  obtain ⟨a1, c1', rfl, hc1, hc1', _⟩ := id h1
  obtain ⟨a2, c2', rfl⟩ := h2.form
  obtain ⟨a3, c3', rfl⟩ := h3.form
  obtain ⟨a4, c4', rfl⟩ := h4.form
  unfold maxLen at hc1'
  have HX := hid h1
  have HS : Hid (∀ W, Below w.heap.size w W → Says W (.slice a2 la.length c2') la ∧ Says W (.slice a3 lm.length c3') lm ∧ Says W (.slice a4 lb.length c4') lb) := hid (fun W hW => ⟨h2.says hW hW.size, h3.says hW hW.size, h4.says hW hW.size⟩)
  clear h1 h2 h3 h4
  go_enter Try.func5, Try.ntmps5
  go_wp2_with fail
  refine (small_any HA w).mono ?_
  rintro e w1 ⟨rfl, hb1⟩
  have HB1 := hid hb1
  clear hb1
  have HM := hid (made_any HA _ xs w.heap.size w1 HB1.out.size (HX.out.below HB1.out))
  go_wp2_with fail
  refine HM.out.mono ?_
  clear HM
  rintro e w2 ⟨tb, L, rfl, R2, hL, hb2⟩
  have HR2 := hid R2
  have HRS := hid (HA.rises R2)
  have HB2 := htr HB1 hb2
  clear R2 hb2 HX
  obtain ⟨s1, s2, s3⟩ := HS.out w2 HB2.out
  have t1 := str4 s1
  have t2 := str4 s2
  have t3 := str4 s3
  have l1 : Op.bytesLess (str8 lm).toList (str8 la).toList = Op.bytesLess lm la := by rw [str8_toList, str8_toList]
  have l2 : Op.bytesLess (str8 lb).toList (str8 lm).toList = Op.bytesLess lb lm := by rw [str8_toList, str8_toList]
  clear s1 s2 s3
  cases hr1 : Op.bytesLess lm la with
  | true =>
    rw [hr1] at l1
    have HRG := hid (HA.rangeB _ _ lm la true HR2.out (HS.out _ HB2.out).2.1 (HS.out _ HB2.out).1 (by omega))
    have HR1 := hid hr1
    clear l2 hr1
    go_wp2_with fail
    clear t1 t2 t3
    refine HRG.out.mono ?_
    clear HRG
    rintro e w3 ⟨sv, es, rfl, q1, q2, hb3⟩
    obtain ⟨⟨a9, c9, rfl⟩, _⟩ := row_form2 q1.row
    have HB3 := htr HB2 hb3
    have t1 := str4 (HS.out _ HB3.out).1
    have t2 := str4 (HS.out _ HB3.out).2.1
    clear q1 q2 hb3
    by_cases hn : es = []
    · subst hn
      go_wp2
      go_ret
      exact ⟨rfl, HB3.out⟩
    · have hpos := List.length_pos_iff.2 hn
      have hn1 : ((es.length : Int) == 0) = false := by rw [beq_eq_false_iff_ne]; omega
      go_wp2
      go_ret
      exact ⟨rfl, HB3.out⟩
  | false =>
    rw [hr1] at l1
    cases hr2 : Op.bytesLess lb lm with
    | true =>
      rw [hr2] at l2
      have HRG := hid (HA.rangeB _ _ lm la true HR2.out (HS.out _ HB2.out).2.1 (HS.out _ HB2.out).1 (by omega))
      rw [rangeL_none L lm la hr1] at HRG
      clear hr1 hr2
      go_wp2_with fail
      clear t1 t2 t3
      refine HRG.out.mono ?_
      clear HRG
      rintro e w3 ⟨sv, es, rfl, q1, q2, hb3⟩
      have hes : es = [] := List.map_eq_nil_iff.1 q2
      subst hes
      obtain ⟨⟨a9, c9, rfl⟩, _⟩ := row_form2 q1.row
      have HB3 := htr HB2 hb3
      have t1 := str4 (HS.out _ HB3.out).1
      have t2 := str4 (HS.out _ HB3.out).2.1
      clear q1 q2 hb3
      go_wp2
      go_ret
      exact ⟨rfl, HB3.out⟩
    | false =>
      rw [hr2] at l2
      have HJ := hid (rangeL_join L HRS.out la lm lb hr1 hr2)
      clear hr1 hr2
      have HRA := hid (HA.rangeB _ _ la lm true HR2.out (HS.out _ HB2.out).1 (HS.out _ HB2.out).2.1 (by omega))
      go_wp2_with fail
      clear t1 t2 t3 l1 l2
      refine HRA.out.mono ?_
      clear HRA
      rintro e w3 ⟨sv, az, rfl, q1, q2, hb3⟩
      obtain ⟨⟨aa, ca, rfl⟩, _⟩ := row_form2 q1.row
      have HB3 := htr HB2 hb3
      have HR3 := hid (HA.newL HR2.out hb3)
      have HEA := hid q1
      have HAL := hid q2
      clear q1 q2 hb3
      have HRB := hid (HA.rangeB _ _ lm lb true HR3.out (HS.out _ HB3.out).2.1 (HS.out _ HB3.out).2.2 (by omega))
      go_wp2_with fail
      refine HRB.out.mono ?_
      clear HRB
      rintro e w4 ⟨sv, bs, rfl, q1, q2, hb4⟩
      obtain ⟨⟨ab, cb, rfl⟩, _⟩ := row_form2 q1.row
      have HB4 := htr HB3 hb4
      have HR4 := hid (HA.newL HR3.out hb4)
      have HEA4 := hid (HEA.out.new hb4)
      have HEB := hid q1
      have HBL := hid q2
      clear q1 q2 hb4 HEA HR3
      have HRC := hid (HA.rangeB _ _ la lb true HR4.out (HS.out _ HB4.out).1 (HS.out _ HB4.out).2.2 (by omega))
      go_wp2_with fail
      refine HRC.out.mono ?_
      clear HRC
      rintro e w5 ⟨sv, cs, rfl, q1, q2, hb5⟩
      obtain ⟨⟨ac, cc, rfl⟩, _⟩ := row_form2 q1.row
      have HB5 := htr HB4 hb5
      have HR5 := hid (HA.newL HR4.out hb5)
      have HEA5 := hid (HEA4.out.new hb5)
      have HEB5 := hid (HEB.out.new hb5)
      have HEC := hid q1
      have HCL := hid q2
      clear q1 q2 hb5 HEA4 HEB HR4
      have HRD := hid (all_of HA HR5.out (by omega))
      go_wp2_with fail
      refine HRD.out.mono ?_
      clear HRD
      rintro e w6 ⟨ad, cd, es, rfl, q1, q2, q3, hb6⟩
      have HB6 := htr HB5 hb6
      have HEA6 := hid (HEA5.out.new hb6)
      have HEB6 := hid (HEB5.out.new hb6)
      have HEC6 := hid (HEC.out.new hb6)
      have HED := hid q1
      have hel : es.length ≤ 80 := by omega
      have HCE : Hid (cs.map EntV.ent = (spanE la lb true es).map EntV.ent) := hid (by rw [HCL.out, spanE_map, q2])
      have HJ2 : Hid ((az ++ bs).map EntV.ent = cs.map EntV.ent) := hid (by rw [List.map_append, HAL.out, HBL.out, HCL.out, HJ.out])
      have HXE := hid (HED.out.ents)
      have HXC := hid (HEC6.out.ents)
      have hc9 : cs.length ≤ 80 := by
        have h1 : cs.length = (spanE la lb true es).length := by rw [← List.length_map (f := EntV.ent), HCE.out, List.length_map]
        have h2 := spanE_length la lb true es
        omega
      have hel2 : es.length ≤ 9223372036854775807 := by omega
      clear q1 q2 q3 hb6 HEA5 HEB5 HEC HR5 HR2 HAL HBL HCL HJ
      go_wp2_with fail
      go_loopw [15, 17] (fun u15 u17 wr => ∃ (k n : Nat), k ≤ es.length ∧ u17 = .int .i64 (k : Int) ∧ u15 = .int .i64 (n : Int) ∧ Hid (n = (spanE la lb true (es.take k)).length) ∧ Hid (Below w6.heap.size w6 wr)) (fun _ u17 _ => es.length - (intOf u17).toNat)
      case atStart => exact ⟨0, 0, by omega, rfl, rfl, hid rfl, hid (Below.refl _ _)⟩
      case round =>
        obtain ⟨k, n, hk, rfl, rfl, HN, HB⟩ := hrel
        have HBW := hid (HB6.out.trans (HB.out.mono HB6.out.size))
        by_cases hlt : k < es.length
        · obtain ⟨b, off, ka, kc, va, vc, kb, vb, rfl, hb, hx, c0, _, s1, _⟩ := (HXE.out.new HB.out).at k hlt
          have hki : (k : Int) < (es.length : Int) := by omega
          have hk0 : (0 : Int) ≤ (k : Int) := by omega
          have HIN := hid (xin_any (.slice a2 la.length c2') (.slice a4 lb.length c4') (.slice ka kb.length kc) true la lb kb wr (HS.out _ HBW.out).1 (HS.out _ HBW.out).2.2 s1)
          have hsn := spanE_snoc la lb true es k _ hx
          simp only at hsn
          have hat := fun hin => spanE_at la lb true es k _ hx hin
          simp only at hat
          obtain ⟨r, hr⟩ : ∃ r, inSp la lb true kb = r := ⟨_, rfl⟩
          rw [hr] at hsn hat
          have HRR := hid hr
          simp only [HRR.out] at HIN
          have HSN := hid hsn
          have HAT := hid hat
          have HKX := hid hlt
          have HSK := hid s1
          have HCK : Hid (wr.cell? ⟨b, off + k * 2, none⟩ = some (.slice ka kb.length kc)) := hid c0
          clear hx s1 hsn hr hat
          go_wp2_with fail
          refine HIN.out.mono ?_
          clear HIN
          rintro e wi ⟨rfl, hbi⟩
          have HBI := htr HB hbi
          have hzi := hbi.size
          have c1 : wi.cell? ⟨b, off + k * 2, none⟩ = some (.slice ka kb.length kc) := by rw [hbi.cell (p := ⟨b, off + k * 2, none⟩) hb]; exact c0
          have HSI : Hid (Says wi (.slice ka kb.length kc) kb) := hid (Says.new HSK.out hbi)
          clear c0 hbi HSK HCK
          cases r with
          | false =>
            have hsn2 : (spanE la lb true (es.take (k + 1))) = spanE la lb true (es.take k) := by rw [HSN.out]; rfl
            have HN2 : Hid (n = (spanE la lb true (es.take (k + 1))).length) := hid (by rw [hsn2]; exact HN.out)
            clear hsn2
            go_wp2_with fail
            go_roundw
            case rel => exact ⟨k + 1, n, HKX.out, by go_num, rfl, HN2, HBI⟩
            case measure => have := HKX.out; simp [intOf]; omega
          | true =>
            have hq := HAT.out rfl
            rw [← HN.out] at hq
            have hq2 : (cs.map EntV.ent)[n]? = some (kb, vb) := by rw [HCE.out, List.getElem?_map, hq]; rfl
            rw [List.getElem?_map] at hq2
            obtain ⟨y, hy, hye⟩ := Option.map_eq_some_iff.1 hq2
            have hnc : n < cs.length := (List.getElem?_eq_some_iff.1 hy).1
            obtain ⟨b2, off2, ka2, kc2, va2, vc2, kb2, vb2, rfl, hb2, hx2, d0, _, s2, _⟩ := (HXC.out.new HBI.out).at n hnc
            rw [hy] at hx2
            simp only [Option.some.injEq] at hx2
            subst hx2
            simp only [EntV.ent, Prod.mk.injEq] at hye
            obtain ⟨rfl, rfl⟩ := hye
            have hn1 : ((cs.length : Int) ≤ (n : Int)) = False := by simp; omega
            have hn2 : decide ((cs.length : Int) ≤ (n : Int)) = false := by simp; omega
            have hn3 : (n : Int) < (cs.length : Int) := by omega
            have hn4 : (0 : Int) ≤ (n : Int) := by omega
            have e1 := fun nq => str4 (s2.below (below_drewN _ wi nq))
            have e2 := fun nq => str4 (Says.new HSI.out (below_drewN _ wi nq))
            have HN2 : Hid (n + 1 = (spanE la lb true (es.take (k + 1))).length) := hid (by rw [HSN.out]; simp; exact HN.out)
            clear hq hq2 hy s2 hn1
            go_wp2_with fail
            go_quiet (fail)
            have HBQ := hid (HBI.out.trans (below_drewN _ wi nq))
            go_wp2
            go_roundw
            case rel => exact ⟨k + 1, n + 1, HKX.out, by go_num, by go_num, HN2, HBQ⟩
            case measure => have := HKX.out; simp [intOf]; omega
        · have hki : ¬ (k : Int) < (es.length : Int) := by omega
          have hkk : k = es.length := by omega
          have hnc : n = cs.length := by
            have h1 : cs.length = (spanE la lb true es).length := by rw [← List.length_map (f := EntV.ent), HCE.out, List.length_map]
            rw [HN.out, hkk, List.take_length, h1]
          subst hnc
          have hnn : ((cs.length : Int) == (cs.length : Int)) = true := by simp
          have HEA7 := hid (HEA6.out.ents.new HB.out)
          have HEB7 := hid (HEB6.out.ents.new HB.out)
          have HEC7 := hid (HEC6.out.ents.new HB.out)
          have haz : az.length ≤ 1000000 := by
            have h1 : (az ++ bs).length = cs.length := by rw [← List.length_map (f := EntV.ent), HJ2.out, List.length_map]
            rw [List.length_append] at h1
            omega
          have hbz : bs.length ≤ 1000000 := by
            have h1 : (az ++ bs).length = cs.length := by rw [← List.length_map (f := EntV.ent), HJ2.out, List.length_map]
            rw [List.length_append] at h1
            omega
          have HAN : Hid (∀ l c, (Value.slice aa az.length ca) = .slice none l c → c = 0) := hid (row_nil HEA6.out.row)
          have HBN : Hid (∀ l c, (Value.slice ab bs.length cb) = .slice none l c → c = 0) := hid (row_nil HEB6.out.row)
          have hw0 : Below wr.heap.size wr (wr.alloc (.cells #[] 46)) := new_alloc _ _
          have HOW := hid (World.ownsRow_made (base := wr.heap.size) (e := 46) (size := 2) wr #[] 0 (Nat.le_refl _) (by unfold maxLen; omega) rfl)
          have HA7 := hid (HEA7.out.new hw0)
          have hbb : wr.heap.size ≤ (wr.alloc (.cells #[] 46)).heap.size := hw0.size
          clear hw0 hkk HN
          go_wp2_with (first
            | (at_builtin; refine wpList_append_entsW _ (by rfl) (.tmp 113) (.tmp 114) rfl wr.heap.size _ 0 [] rfl HOW.out _ _ az rfl HA7.out HAN.out (by omega) hbb ?_))
          intro vA wA oA gA
          obtain ⟨⟨aA, cA, rfl⟩, _⟩ := row_form2 oA
          have HBA : Hid (Below wr.heap.size wr wA) := hid ((new_alloc wr (.cells #[] 46)).grown gA hbb (fun q hq => by have hq' : some wr.heap.size = some q := hq; cases hq'; exact Nat.le_refl _))
          have HOA : Hid (wA.ownsRow wr.heap.size 46 2 (.slice aA az.length cA) az.length (az.flatMap EntV.two)) := hid (by simpa using oA)
          have HB7' := hid (HEB7.out.new HBA.out)
          try simp only [Nat.zero_add]
          have hzA := HBA.out.size
          clear oA gA HOW HA7 hbb
          go_wp2_with (first
            | (at_builtin; refine wpList_append_entsW _ (by rfl) (.tmp 115) (.tmp 116) rfl wr.heap.size _ _ _ rfl HOA.out _ _ bs rfl HB7'.out HBN.out (by omega) hzA ?_))
          intro vB wB oB gB
          obtain ⟨⟨aB, cB, rfl⟩, _⟩ := row_form2 oB
          have HBB : Hid (Below wr.heap.size wr wB) := hid (HBA.out.grown gB hzA (fun q hq => (HOA.out.lt q hq).1))
          have HEE : Hid (Ents wB.heap.size wB (.slice aB (az ++ bs).length cB) (az ++ bs)) := hid (by
            have he : (az ++ bs).length = 0 + az.length + bs.length := by rw [List.length_append]; omega
            refine ents_made (B := wr.heap.size) ?_ (fun y hy => ?_)
            · rw [he, List.flatMap_append]
              simpa using oB
            · rcases List.mem_append.1 hy with hy | hy
              · exact (HEA7.out.new HBB.out).says (Nat.le_refl _) y hy
              · exact (HEB7.out.new HBB.out).says (Nat.le_refl _) y hy)
          have HSM := hid (same_rows HEE.out (HEC7.out.new HBB.out) HJ2.out)
          have HBF := hid (HBW.out.trans (HBB.out.mono HBW.out.size))
          rw [show (az ++ bs).length = az.length + bs.length from List.length_append] at HSM
          clear oB gB HOA HB7' HBA HEE
          try simp only [Nat.zero_add]
          go_wp2_with fail
          refine HSM.out.mono ?_
          clear HSM
          rintro e v3 ⟨rfl, hb3⟩
          have HB3' := htr HBF hb3
          clear hb3
          go_wp2
          go_ret
          exact ⟨rfl, HB3'.out⟩
end Go.Proofs.Ytjfipejfejmlaaa
