/- The document's catalog: Add. -/
import Derived.Test.YtaaggohjmhifbaaGreatDoorCRDropK
import Derived.Test.YtaaggohjmhifbaaGreatDoorCRMayK
import Derived.BigQuiet
namespace Go.Proofs.YtaaggohjmhifbaaGreatDoor
open Go.RowKit Go.Shelf Go.Lib
set_option linter.unusedVariables false
set_option linter.unusedSimpArgs false
set_option maxRecDepth 20000
theorem own_apart {w : World} {b1 b2 n1 n2 : Nat} {v1 v2 : Value} {xs1 xs2 : List Value} (h1 : w.ownsRow b1 31 3 v1 n1 xs1) (h2 : w.ownsRow b2 37 4 v2 n2 xs2) (g : Nat) (hg : v2.ownBlock = some g) : v1.ownBlock ≠ some g := fun e => by
  rcases h1.2 with ⟨rfl, _⟩ | ⟨g1, _, cur1, rfl, _, hh1, _⟩
  · cases e
  · rcases h2.2 with ⟨rfl, _⟩ | ⟨g2, _, cur2, rfl, _, hh2, _⟩
    · cases hg
    · simp only [Value.ownBlock, Option.some.injEq] at e hg
      subst e
      subst hg
      rw [hh1] at hh2
      injection hh2 with hh2
      injection hh2 with e1 e2
      exact absurd e2 (by decide)
def AddTo (w w' : World) (rb : Nat) (T : List Tb) (D : Nat → Prop) (t : Tb) (q : Int) (e : Ending) : Prop :=
  e = .returned (.int .i64 q) ∧ (∃ v' css' T' D', DocAt w' rb v' css' T' D' ∧ T'.Perm (addL T t) ∧ ∀ b, D' b → D b ∨ (w.heap.size ≤ b ∧ b < w'.heap.size)) ∧ Spares (fun k => k = rb) w w'
theorem AddTo.kept {w w' : World} {rb : Nat} {v : Value} {css : List (List Value)} {T : List Tb} {D : Nat → Prop} {t : Tb} {q : Int} (h : DocAt w rb v css T D) (hb : Below w.heap.size w w') (hl : addL T t = T) : AddTo w w' rb T D t q (.returned (.int .i64 q)) :=
  ⟨rfl, ⟨v, css, T, D, h.new hb, by rw [hl], fun b hb => .inl hb⟩, Spares.of_new hb⟩
set_option maxHeartbeats 4000000 in
theorem radd_any (rb : Nat) (v : Value) (css : List (List Value)) (T : List Tb) (D R : Nat → Prop) (t : Tb) (cs : List Value) (w : World) (h : DocAt w rb v css T D) (hR : RgT t) (hE : TbE R w t cs) :
    Calls Tryz.prog 22 #[.pointer (some ⟨rb, 0, none⟩), .agg cs.toArray] w fun e w' => AddTo w w' rb T D t (addE T t) e := by
  have hEE := hE
  obtain ⟨aa, nn, cc, rfl, hsl⟩ := hE
  obtain ⟨W, hW, hbW, hzW, hcW⟩ := box8 w (.cells #[.string (str8 t.nm), .slice aa nn cc, .int .i64 t.pr] 31)
  have k0 := cells3f hcW
  have HMB := hid (rmay_any R t _ W hR (hEE.on hbW))
  have HB := hid hbW
  have HCW := hid hcW
  have HD := hid h
  have HE := hid hEE
  cases hm : mayB t with
  | false =>
    have e1 : addE T t = 4 := by unfold addE; rw [hm]; rfl
    have e2 : addL T t = T := by unfold addL; rw [e1]; rfl
    rw [e1]
    rw [hm] at HMB
    have HL := hid e2
    clear e1 e2 hm hR hsl hbW hcW h hEE
    go_enter Tryz.func22, Tryz.ntmps22
    go_wp2_with fail
    try rw [hW]
    refine HMB.out.mono ?_
    rintro e w1 ⟨rfl, hb1⟩
    have HB1 := hid (HB.out.trans (hb1.mono HB.out.size))
    clear hb1 HMB
    go_wp2
    go_ret
    exact AddTo.kept HD.out HB1.out HL.out
  | true =>
    rw [hm] at HMB
    obtain ⟨q, hq⟩ : ∃ q, addE T t = q := ⟨_, rfl⟩
    rw [hq]
    have HQ := hid hq
    have h8 := (may_short hm).1.2.1
    have HM := hid hm
    have HR := hid h.ris
    have h6 := h.six
    obtain ⟨a1, c1, rfl⟩ := h.sl.form
    clear hq hm hR hsl hbW hcW h hEE
    go_enter Tryz.func22, Tryz.ntmps22
    go_wp2_with fail
    try rw [hW]
    refine HMB.out.mono ?_
    rintro e w1 ⟨rfl, hb1⟩
    have hB1 := HB.out.trans (hb1.mono HB.out.size)
    have hd1 := HD.out.new hB1
    have HC1 := hid ((hb1.block w.heap.size hzW).trans HCW.out)
    have k1 := cells3f HC1.out
    have hz1 := hb1.size
    have HAT := hid (rat_any D T t.nm rb _ w1 hd1.cell hd1.sl)
    have HB1 := hid hB1
    have HD1 := hid hd1
    clear hb1 hB1 hd1 HMB hW k0
    go_wp2_with fail
    refine HAT.out.mono ?_
    rintro e w2 ⟨k, rfl, hat, hw2⟩
    obtain rfl : w1 = w2 := hw2.symm
    have HA := hid hat
    have kR := cell1f HD1.out.box
    clear HAT hat
    by_cases hin : t.nm ∈ T.map Tb.nm
    · have hq13 : q = 13 := by rw [← HQ.out]; unfold addE; rw [if_pos HM.out, if_pos hin]
      have HL : Hid (addL T t = T) := hid (by unfold addL; rw [HQ.out, hq13]; rfl)
      obtain ⟨x, hx, hxn⟩ := (at_tells HR.out HA.out).1 hin
      have hk : k < T.length := (List.getElem?_eq_some_iff.1 hx).1
      obtain ⟨b, off, c, hv, hlc, hcm, hel⟩ := HD1.out.sl.opened (by decide) (fun e => by rw [e] at hk; exact absurd hk (Nat.not_lt_zero _))
      simp only [Value.slice.injEq] at hv
      obtain ⟨rfl, _, rfl⟩ := hv
      unfold maxLen at hcm
      obtain ⟨cs, hE, hcl⟩ := hel k x hx
      obtain ⟨ax, nx, cx, rfl, _⟩ := hE
      have p0 := hcl w1 (Below.refl _ _) 0 _ rfl
      rw [Nat.add_zero] at p0
      have hk2 : (k : Int) < (T.length : Int) := by omega
      have hkd : decide ((k : Int) < (T.length : Int)) = true := decide_eq_true hk2
      have hnmq : ((str8 x.nm).toList == (str8 t.nm).toList) = true := by rw [hxn]; simp
      subst hq13
      clear hx hxn hin hel hcl
      go_wp2_with fail
      go_quiet (fail)
      go_wp2
      go_ret
      exact AddTo.kept HD.out (by first | exact below_drewN HB1.out nq | exact below_drewN HB1.out 1) HL.out
    · have HIN := hid hin
      go_upto_region 5 with fail
      go_cut [35] (fun u35 wx => u35 = .bool false ∧ Hid (Below w1.heap.size w1 wx))
      case first =>
        by_cases hk : k = T.length
        · have hkd : decide ((k : Int) < (T.length : Int)) = false := decide_eq_false (by omega)
          have hk2 : ¬ (k : Int) < (T.length : Int) := by omega
          have hkn : decide (k < T.length) = false := decide_eq_false (by omega)
          clear hin hk
          go_wp2_with fail
          go_quiet (fail)
          go_wp2_with fail
          go_meet
          exact ⟨rfl, hid (by first | exact below_drewN (Below.refl _ _) nq | exact below_drewN (Below.refl _ _) 1)⟩
        · have hkl : k < T.length := Nat.lt_of_le_of_ne HA.out.1 hk
          obtain ⟨x, hx⟩ : ∃ x, T[k]? = some x := ⟨_, List.getElem?_eq_getElem hkl⟩
          have hnx : x.nm ≠ t.nm := fun e => HIN.out (List.mem_map.2 ⟨x, List.mem_of_getElem? hx, e⟩)
          obtain ⟨b, off, c, hv, hlc, hcm, hel⟩ := HD1.out.sl.opened (by decide) (fun e => by rw [e] at hkl; exact absurd hkl (Nat.not_lt_zero _))
          simp only [Value.slice.injEq] at hv
          obtain ⟨rfl, _, rfl⟩ := hv
          unfold maxLen at hcm
          obtain ⟨cs, hE, hcl⟩ := hel k x hx
          obtain ⟨ax, nx, cx, rfl, _⟩ := hE
          have p0 := hcl w1 (Below.refl _ _) 0 _ rfl
          rw [Nat.add_zero] at p0
          have hk2 : (k : Int) < (T.length : Int) := by omega
          have hkd : decide ((k : Int) < (T.length : Int)) = true := decide_eq_true hk2
          have hnmq : ((str8 x.nm).toList == (str8 t.nm).toList) = false := by rw [str8_toList, str8_toList]; simp [hnx]
          clear hx hnx hin hel hcl hk
          go_wp2_with fail
          go_quiet (fail)
          go_wp2_with fail
          go_meet
          exact ⟨rfl, hid (by first | exact below_drewN (Below.refl _ _) nq | exact below_drewN (Below.refl _ _) 1)⟩
      case rest =>
        obtain ⟨rfl, HC⟩ := hcut
        have hBc := HB1.out.trans (HC.out.mono HB1.out.size)
        have hdc := HD1.out.new HC.out
        have hsc := HC.out.size
        have HCc := hid ((HC.out.block w.heap.size (by omega)).trans HC1.out)
        have kRc := cell1f hdc.box
        have HBc := hid hBc
        clear k1 kR hin
        by_cases h6l : 6 ≤ T.length
        · have hq16 : q = 16 := by rw [← HQ.out]; unfold addE; rw [if_pos HM.out, if_neg HIN.out, if_pos h6l]
          have HL : Hid (addL T t = T) := hid (by unfold addL; rw [HQ.out, hq16]; rfl)
          have h6' : (6 : Int) ≤ (T.length : Int) := by omega
          subst hq16
          clear hBc hdc h6l
          go_wp2
          go_ret
          exact AddTo.kept HD.out HBc.out HL.out
        · have hq0 : q = 0 := by rw [← HQ.out]; unfold addE; rw [if_pos HM.out, if_neg HIN.out, if_neg h6l]
          have hadl : addL T t = t :: T := by unfold addL; rw [HQ.out, hq0]; rfl
          have h6' : ¬ (6 : Int) ≤ (T.length : Int) := by omega
          have kc := cells3f HCc.out
          obtain ⟨x1, y1, z1, e1, a2, n2, c2, w2, hr2, ho2, hB2⟩ := pre_part hdc HA.out.1
          have hBw2 := hBc.trans (hB2.mono hBc.size)
          have hs2 := hB2.size
          have HR2 := hid hr2
          have k2 := cells3f ((hB2.block w.heap.size (by omega)).trans HCc.out)
          have HO2 := hid ho2
          have HBw2 := hid hBw2
          have HD2 := hid (hdc.new hB2)
          have HCO := hid (copied11_any R t _ w2 (HE.out.on hBw2) (by omega))
          have HADL := hid hadl
          have hkl := HA.out.1
          subst hq0
          clear hBc hdc h6l hr2 ho2 hB2 hBw2 hadl
          go_wp2_with (first | (at_builtin; refine wpList_append_run _ rfl (.tmp 42) (.tmp 48) 56 rfl _ _ _ _ rfl rfl HR2.out ?_))
          refine HCO.out.mono ?_
          rintro e w4 ⟨ds, rfl, hds, hb4⟩
          have hs4 := hb4.size
          have HDS := hid hds
          obtain ⟨a4, n4, c4, rfl, hown4⟩ := hds
          obtain ⟨V, hV, hbV, hzV, hcV⟩ := box8 w4 (.cells #[.string (str8 t.nm), .slice a4 n4 c4, .int .i64 t.pr] 31)
          have h2V : Below w2.heap.size w2 V := hb4.trans (hbV.mono hb4.size)
          have ho2V := Spares.row (Spares.of_new (S := fun _ => False) h2V) HO2.out (fun _ _ => id)
          have hdV := HD2.out.new h2V
          have hBV := HBw2.out.trans (h2V.mono HBw2.out.size)
          have hsV := h2V.size
          have hwc2 := HBw2.out.size
          obtain ⟨a5, n5, c5, w5, hr5, ho5, hs5⟩ := append_tabs ho2V ⟨w4.heap.size, 0, none⟩ 1 1 [[.string (str8 t.nm), .slice a4 n4 c4, .int .i64 t.pr]] rfl (fun d hd => by
            obtain rfl := List.mem_singleton.1 hd
            refine ⟨rfl, fun u hu => ?_⟩
            simp only [List.mem_cons, List.not_mem_nil, or_false] at hu
            rcases hu with rfl | rfl | rfl <;> rfl) (fun j u hu => by
            rw [List.flatten_cons, List.flatten_nil, List.append_nil] at hu
            rw [Addr.add_lit, Nat.zero_add, cell_row _ _ _ _ _ _ hcV]
            simpa using hu) (by omega) (by omega) 56
          have hB5 : Below wc.heap.size V w5 := hs5.below (fun i hi => (ho2V.lt i hi).1) (by omega)
          have hBw5 : Below w.heap.size w w5 := hBV.trans (hB5.mono HBc.out.size)
          have hd5 : DocAt w5 rb (.slice a1 T.length c1) css T D := HD.out.new hBw5
          obtain ⟨x6, y6, z6, e6, a7, n7, c7, w7, hr7, ho7, hs7⟩ := post_part hd5 hkl ho5 (by omega) (by have := hB5.size; omega)
          have hB7 : Below wc.heap.size w5 w7 := hs7.below (fun i hi => (ho5.lt i hi).1) (by have := hB5.size; omega)
          have hBw7 : Below w.heap.size w w7 := hBw5.trans (hB7.mono HBc.out.size)
          have hrb : rb < w.heap.size := World.lt_of_block HD.out.box
          have hbox7 := (hBw7.block rb hrb).trans HD.out.box
          obtain ⟨X, hX, hcX, hsX⟩ := box1 hbox7 (.slice a7 n7 c7)
          have hSX : Spares (fun k => k = rb) w X := (Spares.of_new (S := fun k => k = rb) hBw7).andThen hsX (fun i hi => .inl hi)
          have hins := ris_ins HR.out HA.out HIN.out
          have kV := cells3f hcV
          have kR5 := cell1f hd5.box
          have kR7 := cell1f hbox7
          have hls : (T.take k ++ t :: T.drop k).length = k + 1 + (T.length - k) := by rw [List.length_append, List.length_cons, List.length_take, List.length_drop, Nat.min_eq_left hkl]; omega
          have rV := Spares.row (Spares.of_new (S := fun _ => False) hbV) hown4 (fun _ _ => id)
          have r5 := hs5.row rV (fun g hg => own_apart ho2V rV g hg)
          have r7 := hs7.row r5 (fun g hg => own_apart ho5 r5 g hg)
          have rX := hsX.row r7 (fun g hg e => by have := (hown4.lt g hg).1; omega)
          have HF : Hid (DocAt X rb (.slice a7 n7 c7) (css.take k ++ [[.string (str8 t.nm), .slice a4 n4 c4, .int .i64 t.pr]] ++ css.drop k) (T.take k ++ t :: T.drop k) (fun b => D b ∨ (w.heap.size ≤ b ∧ b < X.heap.size))) := hid (HD.out.put hcX (by
              rw [hls]
              exact owns_lower (hsX.row ho7 (fun b hb e => by have := (ho7.lt b hb).1; have := HBc.out.size; omega)) (fun b hb => by have := (ho7.lt b hb).1; have := HBc.out.size; omega)) (by
              rw [List.append_assoc]
              refine Els.append' ((HD.out.els.take k).to (fun x cs e => e.to hSX (fun b hb _ => ⟨fun e2 => HD.out.ne (e2 ▸ hb), .inl hb⟩))) ?_
              show Els 3 TbE _ X ([t] ++ T.drop k) ([_] ++ css.drop k)
              refine Els.append' (Els.snoc Els.nil rfl ?_) ((HD.out.els.drop k).to (fun x cs e => e.to hSX (fun b hb _ => ⟨fun e2 => HD.out.ne (e2 ▸ hb), .inl hb⟩)))
              exact ⟨a4, n4, c4, rfl, SlAt.of_owns (by decide) rX (els_col _ _ _) (fun b hb => .inr ⟨by have := (hown4.lt b hb).1; omega, (rX.lt b hb).2⟩)⟩) hSX.size hins.1 (fun x hx => by
              rcases List.mem_append.1 hx with h1 | h1
              · exact HD.out.ok x (List.mem_of_mem_take h1)
              · rcases List.mem_cons.1 h1 with rfl | h1
                · exact HM.out
                · exact HD.out.ok x (List.mem_of_mem_drop h1)) (by rw [hls]; omega))
          have HR5 := hid hr5
          have HR7 := hid hr7
          have HSX := hid hSX
          have HPM : Hid ((T.take k ++ t :: T.drop k).Perm (addL T t)) := hid (by rw [HADL.out]; exact hins.2)
          clear hb4 hbV hcV h2V ho2V hdV hBV hr5 ho5 hs5 hB5 hBw5 hd5 hr7 ho7 hs7 hB7 hBw7 hbox7 hcX hsX hSX hins hls hown4 rV r5 r7 rX HCO k2
          go_wp2_with (first
            | (at_builtin; refine wpList_append_run _ rfl (.tmp 50) (.tmp 53) 56 rfl _ _ _ _ rfl rfl HR5.out ?_)
            | (at_builtin; refine wpList_append_run _ rfl (.tmp 56) (.tmp 62) 56 rfl _ _ _ _ rfl rfl HR7.out ?_))
          try rw [hX]
          go_ret
          exact ⟨rfl, ⟨_, _, _, _, HF.out, HPM.out, fun b hb => hb⟩, HSX.out⟩
end Go.Proofs.YtaaggohjmhifbaaGreatDoor
