/- CatalogPlays, walked. -/
import Derived.Test.YtaaggohjmhifbaaGreatDoorCPlaysMK
import Derived.Test.YtaaggohjmhifbaaGreatDoorCRAddK
import Derived.Test.YtaaggohjmhifbaaGreatDoorCAllPK
import Derived.Test.YtaaggohjmhifbaaGreatDoorCShortPK
import Derived.Test.YtaaggohjmhifbaaGreatDoorP42
import Derived.Test.YtaaggohjmhifbaaGreatDoorP39
namespace Go.Proofs.YtaaggohjmhifbaaGreatDoor
open Go.RowKit Go.Shelf Go.Lib
set_option linter.unusedVariables false
set_option linter.unusedSimpArgs false
set_option maxRecDepth 20000
theorem cells5f {w : World} {g : Nat} {a b c d e : Value} {t : TypeId} (h : w.heap[g]? = some (.cells #[a, b, c, d, e] t)) :
    w.cell? ⟨g, 0, none⟩ = some a ∧ w.cell? ⟨g, 1, none⟩ = some b ∧ w.cell? ⟨g, 2, none⟩ = some c ∧ w.cell? ⟨g, 3, none⟩ = some d ∧ w.cell? ⟨g, 4, none⟩ = some e ∧ ∀ i, w.frozen? ⟨g, i, none⟩ = false :=
  ⟨by rw [cell_row _ _ _ _ _ _ h]; rfl, by rw [cell_row _ _ _ _ _ _ h]; rfl, by rw [cell_row _ _ _ _ _ _ h]; rfl, by rw [cell_row _ _ _ _ _ _ h]; rfl, by rw [cell_row _ _ _ _ _ _ h]; rfl, fun i => by simp [World.frozen?, h]⟩
set_option maxHeartbeats 8000000 in
theorem catalogPlays_law (l : List Ac) (v : Value) (w : World) (hx : SlAt 5 AcE (fun b => b < w.heap.size) w l v) (hR : ∀ a ∈ l, RgA a) (hL : TabL w) (hT : TabW w) :
    Calls Tryz.prog 5 #[v] w fun e w' => e = .returned (.bool true) ∧ Below w.heap.size w w' := by
  obtain ⟨aa, cc, hv⟩ := hx.form
  subst hv
  have hlm : l.length ≤ 9223372036854775807 := by
    obtain ⟨_, _, _, h1, h2, h3, _⟩ := id hx
    unfold maxLen at h3
    omega
  have HX := hid hx
  have HR := hid hR
  have HT := hid hT
  have HSM := hid (small11_any w hT hL)
  clear hx hR hT hL
  go_enter Tryz.func5, Tryz.ntmps5
  go_wp2_with fail
  refine HSM.out.mono ?_
  rintro e w1 ⟨rfl, hb1⟩
  have HB1 := hid hb1
  clear hb1 HSM
  go_wp2_with fail
  refine (cnew_any w1).mono ?_
  rintro e w2 ⟨u, rfl, hcat, hb2⟩
  obtain ⟨sb, mb, E, f, rfl, hcat⟩ := hcat
  have hs1 := HB1.out.size
  have hs2 := hb2.size
  have HCAT := hid hcat
  have HB2 := hid hb2
  clear hcat hb2
  go_wp2_with fail
  refine (rnew_any w2).mono ?_
  rintro e w3 ⟨rfl, hdoc, hb3⟩
  obtain ⟨rb, hrb⟩ : ∃ rb, w2.heap.size = rb := ⟨_, rfl⟩
  have HF0 : Hid (PM w w3 sb mb rb [] [] (fun _ => False)) := hid (by
    rw [hrb] at hdoc
    refine ⟨⟨E, f, _, _, _, _, HCAT.out.new hb3, hdoc, fun b hb => ⟨by omega, id, by omega, id⟩, fun b hb => hb.elim⟩, (HB1.out.trans (HB2.out.mono hs1)).trans (hb3.mono (by omega)), ⟨by omega, id⟩, fun b hb => hb.elim⟩)
  rw [hrb]
  clear hdoc hb3 HCAT HB2 hrb
  go_wp2_with fail
  go_loopw [6] (fun i wr => ∃ (k : Nat) (L T : List Tb), k ≤ l.length ∧ i = .int .i64 k ∧ Hid (PM w wr sb mb rb L T (fun _ => False)) ∧ Hid (T.Perm L)) (fun i _ => l.length - (intOf i).toNat)
  case atStart => exact ⟨0, [], [], Nat.zero_le _, rfl, HF0, hid (List.Perm.refl _)⟩
  case round =>
    clear HF0
    obtain ⟨k, L, T, hk, rfl, HF, HPM⟩ := hrel
    obtain ⟨wo, rfl⟩ : ∃ wo, wo = wr := ⟨_, rfl⟩
    by_cases hlt : k < l.length ∧ k < 40
    · obtain ⟨hlt1, hlt2⟩ := hlt
      have hlt1' : (k : Int) < (l.length : Int) := by omega
      have hlt2' : (k : Int) < 40 := by omega
      obtain ⟨a, ha⟩ : ∃ a, l[k]? = some a := ⟨_, List.getElem?_eq_getElem hlt1⟩
      have HRA := hid (HR.out a (List.mem_of_getElem? ha))
      obtain ⟨_, _, _, b0, off, cs, rfl, _, hel, hcell⟩ := sl_get (HX.out.to (T := fun b => b < w.heap.size) (by decide) (R := fun _ => False) (Spares.of_new HF.out.below) (fun b hb _ => ⟨id, hb⟩) (fun _ _ e => e.to (R := fun _ => False) (Spares.of_new HF.out.below) (fun b hb _ => ⟨id, hb⟩))) ha
      obtain ⟨ts, rfl, htb⟩ := hel
      have HTB := hid htb
      obtain ⟨ta, tn, tc, rfl, _⟩ := htb
      have z0 := hcell 0 _ rfl
      have z1 := hcell 1 _ rfl
      have z2 := hcell 2 _ rfl
      have z3 := hcell 3 _ rfl
      have z4 := hcell 4 _ rfl
      simp only [Nat.add_zero] at z0
      obtain ⟨U, hU, hbU, hzU, hcU⟩ := box8 wo (.cells #[.int .i64 a.d, .string (str8 a.t.nm), .slice ta tn tc, .int .i64 a.t.pr, .string (str8 a.s)] 50)
      have kU := cells5f hcU
      have HSH := hid (shortP_any _ a.t _ U (HTB.out.on hbU))
      have HBU := hid hbU
      have HCU := hid hcU
      have hRD : -9223372036854775808 ≤ a.d ∧ a.d ≤ 9223372036854775807 := HRA.out.2.2
      clear hcell ha hbU hcU
      obtain ⟨d, t, s⟩ := a
      dsimp only at *
      go_wp2_with fail
      try rw [hU]
      refine HSH.out.mono ?_
      rintro e q1 ⟨⟨sh, rfl, h41⟩, hb3⟩
      have hs3 := hb3.size
      have HB3 := hid (HBU.out.trans (hb3.mono HBU.out.size))
      have HC1 := hid ((hb3.block wo.heap.size (by omega)).trans HCU.out)
      have HP1 := hid (HF.out.new HB3.out)
      have HTB1 := hid (HTB.out.on HB3.out)
      have hzU1 : wo.heap.size < q1.heap.size := by omega
      have hmA : mb < wo.heap.size ∧ rb < wo.heap.size ∧ w.heap.size ≤ mb ∧ w.heap.size ≤ rb := by
        obtain ⟨_, _, _, _, _, _, h1, h2, h3, _⟩ := HF.out.both
        exact ⟨h1.lt _ h1.inS.2, World.lt_of_block h2.box, (h3 _ h1.inS.2).1, HF.out.lo.1⟩
      have hwA : w.heap.size ≤ wo.heap.size := HF.out.below.size
      have k1 := cells5f HC1.out
      clear hb3 hU kU HSH z0 z1 z2 z3 z4 HBU HCU HTB hs3 HB3 HF
      cases sh
      · go_wp2
        go_ret
        exact ⟨rfl, HP1.out.below⟩
      have h41 := h41 rfl
      go_upto_block 2 with fail
      go_cut [9, 10, 11, 12, 13, 14, 15, 16, 17, 18] from 32 to 179 (fun u9 u10 u11 u12 u13 u14 u15 u16 u17 u18 wx => ∃ L' T', Hid (PM w wx sb mb rb L' T' (fun _ => False)) ∧ Hid (T'.Perm L'))
      case first =>
        by_cases hd0 : d = 0
        · subst hd0
          obtain ⟨q, hq⟩ : ∃ q, addE L t = q := ⟨_, rfl⟩
          have HCO := hid (copied11_any _ t _ q1 HTB1.out (by omega))
          go_wp2_with fail
          refine HCO.out.mono ?_
          rintro e q2 ⟨d2, rfl, ho2, hb2⟩
          have HO2 := hid ho2.e
          obtain ⟨a2, n2, c2, rfl, hown⟩ := ho2
          have hn2 : n2 = t.cols.length := by
            rcases hown.2 with ⟨e, h⟩ | ⟨_, _, _, e, _⟩
            · simp only [Value.slice.injEq] at e; omega
            · simp only [Value.slice.injEq] at e; exact e.2.1
          subst hn2
          obtain ⟨V, hV, hbV, hzV, hcV⟩ := box8 q2 (.cells #[.string (str8 t.nm), .slice a2 t.cols.length c2, .int .i64 t.pr] 31)
          have hs2 := hb2.size
          have hbq : Below q1.heap.size q1 V := hb2.trans (hbV.mono hb2.size)
          have HPV := hid (HP1.out.hole hbq)
          obtain ⟨E4, f4, S4, hc4, hmv⟩ := HPV.out.cat
          have HMV := hid hmv
          have HAD := hid (cadd_any sb mb E4 f4 L S4 _ t _ V hc4 (HT.out.on HPV.out.below) HRA.out.1.1 (HO2.out.on hbV))
          rw [hq] at HAD
          have kV := cells3f hcV
          have HCV := hid hcV
          have HOV := hid (Spares.row (Spares.of_new (S := fun _ => False) hbV) hown (fun _ _ => id))
          have HCA := hid ((hbq.block wo.heap.size (by omega)).trans HC1.out)
          have HTV := hid (HTB1.out.on hbq)
          clear hb2 hown hbV hcV hbq hc4 hmv HCO k1 HO2
          go_wp2_with fail
          try rw [hV]
          refine HAD.out.mono ?_
          rintro e q3 ⟨rfl, ⟨E5, f5, S5, hc5, hS5⟩, hk5⟩
          have HP3 := hid (HMV.out q3 E5 f5 (addL L t) S5 hc5 hS5 hk5)
          have hs3 := hk5.size
          have hlt2 : q2.heap.size < V.heap.size := hzV
          have HC3 := hid ((hk5.block wo.heap.size (by omega) (by omega)).trans HCA.out)
          have HT3 := hid ((hk5.block q2.heap.size (by omega) (by omega)).trans HCV.out)
          have HO3 := hid (hk5.row HOV.out (fun b hb e => by have := (HOV.out.lt b hb).1; omega))
          have HTA := hid (HTV.out.to (T := fun b => b < w.heap.size) hk5 (fun b hb _ => ⟨by omega, hb⟩))
          have HIN : Hid (TbE (fun b => q1.heap.size ≤ b) q3 t [.string (str8 t.nm), .slice a2 t.cols.length c2, .int .i64 t.pr]) := hid ⟨_, _, _, rfl, owns_cols HO3.out⟩
          have HSA := hid (sameTab_any _ _ t t _ _ q3 HIN.out HTA.out)
          rw [(sameT_iff t t).2 rfl] at HSA
          have k3 := cells5f HC3.out
          have k3t := cells3f HT3.out
          clear hc5 hS5 hk5 HAD HMV HPV kV hV
          go_wp2_with fail
          refine HSA.out.mono ?_
          rintro e q4 ⟨rfl, hb4⟩
          have hs4 := hb4.size
          have HP4 := hid (HP3.out.new hb4)
          have HO5 := hid (Spares.row (Spares.of_new (S := fun _ => False) hb4) HO3.out (fun _ _ => id))
          have HCT := hid ((hb4.block q2.heap.size (by omega)).trans HT3.out)
          have HCA4 := hid ((hb4.block wo.heap.size (by omega)).trans HC3.out)
          have HTA4 := hid (HTA.out.on hb4)
          have hwq := HP1.out.below.size
          have HOL : Hid (∀ b, (Value.slice a2 t.cols.length c2).ownBlock = some b → q1.heap.size ≤ b ∧ b < V.heap.size) := hid (fun b hb => HOV.out.lt b hb)
          clear hb4 HSA k3 k3t HIN
          go_wp2_with fail
          go_loopw [12] (fun i wr => ∃ (j : Nat) (xs : List Value), j ≤ t.cols.length ∧ i = .int .i64 j ∧ wr.ownsRow q1.heap.size 37 4 (.slice a2 t.cols.length c2) t.cols.length xs ∧ Spares (fun k => (Value.slice a2 t.cols.length c2).ownBlock = some k) q4 wr) (fun i _ => t.cols.length - (intOf i).toNat)
          case atStart => exact ⟨0, _, Nat.zero_le _, rfl, HO5.out, Spares.refl _ _⟩
          case round =>
            obtain ⟨j, xs, hj, rfl, hor, hsr⟩ := hrel
            have hzr := hsr.size
            have hno : ∀ (B : Nat) (cs : Array Value), q4.heap[B]? = some (.cells cs 31) → wr.heap[B]? = some (.cells cs 31) := fun B cs hc => (hsr.block B (World.lt_of_block hc) (own_ne HO5.out hc)).trans hc
            have kT := cells3f (hno _ _ HCT.out)
            by_cases hlt : j < t.cols.length
            · have hlt' : (j : Int) < (t.cols.length : Int) := by omega
              obtain ⟨g, rfl, hg⟩ : ∃ g, a2 = some ⟨g, 0, none⟩ ∧ q1.heap.size ≤ g := by
                rcases hor.2 with ⟨e, h⟩ | ⟨g, cap, cur, e, hg, _⟩
                · omega
                · simp only [Value.slice.injEq] at e; exact ⟨g, e.1, hg⟩
              have hcell : ∀ (Z : World) (ys : List Value), Z.ownsRow q1.heap.size 37 4 (.slice (some ⟨g, 0, none⟩) t.cols.length c2) t.cols.length ys → ∀ i, i < 4 → ∃ u, Z.cell? ⟨g, j * 4 + i, none⟩ = some u := fun Z ys ho i hi => by
                rw [ho.cellAt (j * 4 + i) (by omega)]
                exact ⟨_, List.getElem?_eq_getElem (by rw [ho.1]; omega)⟩
              obtain ⟨u0, h0⟩ := hcell wr xs hor 0 (by omega)
              rw [Nat.add_zero] at h0
              have f0 := fun i => hor.frozenAt i
              obtain ⟨X1, hX1⟩ : ∃ X1, wr.setCell ⟨g, j * 4, none⟩ (.string ⟨#[]⟩) = X1 := ⟨_, rfl⟩
              have ho1 := hor.stored (j * 4) (.string ⟨#[]⟩)
              rw [hX1] at ho1
              obtain ⟨u1, h1⟩ := hcell X1 _ ho1.1 1 (by omega)
              have f1 := fun i => ho1.1.frozenAt i
              obtain ⟨X2, hX2⟩ : ∃ X2, X1.setCell ⟨g, j * 4 + 1, none⟩ (.int .i64 (-7)) = X2 := ⟨_, rfl⟩
              have ho2 := ho1.1.stored (j * 4 + 1) (.int .i64 (-7))
              rw [hX2] at ho2
              obtain ⟨u2, h2⟩ := hcell X2 _ ho2.1 2 (by omega)
              have f2 := fun i => ho2.1.frozenAt i
              obtain ⟨X3, hX3⟩ : ∃ X3, X2.setCell ⟨g, j * 4 + 2, none⟩ (.bool false) = X3 := ⟨_, rfl⟩
              have ho3 := ho2.1.stored (j * 4 + 2) (.bool false)
              rw [hX3] at ho3
              obtain ⟨u3, h3⟩ := hcell X3 _ ho3.1 3 (by omega)
              have f3 := fun i => ho3.1.frozenAt i
              obtain ⟨X4, hX4⟩ : ∃ X4, X3.setCell ⟨g, j * 4 + 3, none⟩ (.bool false) = X4 := ⟨_, rfl⟩
              have ho4 := ho3.1.stored (j * 4 + 3) (.bool false)
              rw [hX4] at ho4
              have hgr : ∀ {a b : World}, a.grownBy b (some g) → Spares (fun k => (Value.slice (some ⟨g, 0, none⟩) t.cols.length c2).ownBlock = some k) a b := fun h => Spares.of_grown h (fun k e => e)
              have HS4 := hid ((((hsr.andThen (hgr ho1.2) (fun i hi => .inl hi)).andThen (hgr ho2.2) (fun i hi => .inl hi)).andThen (hgr ho3.2) (fun i hi => .inl hi)).andThen (hgr ho4.2) (fun i hi => .inl hi))
              have HO4 := hid ho4.1
              clear hor hsr hno hcell ho1 ho2 ho3 ho4 hgr
              go_wp2
              go_roundw
              case rel => exact ⟨j + 1, _, Nat.succ_le_of_lt hlt, by go_num, HO4.out, HS4.out⟩
              case measure => simp [intOf]; omega
            · have hlt' : ¬ (j : Int) < (t.cols.length : Int) := by omega
              have hcA := (hsr.block wo.heap.size (by omega) (fun h => by have := (HOL.out _ h).1; omega)).trans HCA4.out
              have kA := cells5f hcA
              have HPr := hid (HP4.out.spoil hsr (fun b hb => ⟨HOL.out b hb, by have := (HOL.out b hb).1; omega⟩))
              have hTA := HTA4.out.to (T := fun b => b < w.heap.size) hsr (fun b hb _ => ⟨fun h => by have := (HOL.out b h).1; omega, hb⟩)
              obtain ⟨v6, css6, D6, hd6, hmd⟩ := HPr.out.doc
              have HMD := hid hmd
              have HRD := hid (radd_any rb v6 css6 T D6 _ t _ wr hd6 HRA.out.1.1 hTA)
              rw [addE_perm HPM.out t, hq] at HRD
              clear hor hsr hno hcA hTA hd6 hmd
              go_wp2_with fail
              refine HRD.out.mono ?_
              rintro e q7 ⟨rfl, ⟨v7, css7, T7, D7, hd7, hp7, hD7⟩, hk7⟩
              have HP7 := hid (HMD.out q7 v7 css7 T7 D7 hd7 hD7 hk7).all
              have HPM7 := hid (hp7.trans (addL_perm HPM.out t))
              clear hd7 hp7 hD7 hk7 HRD HMD kA
              go_wp2_with fail
              go_meet
              exact ⟨_, T7, HP7, HPM7⟩
        · by_cases hd1 : d = 1
          · subst hd1
            obtain ⟨q, hq⟩ : ∃ q : Int, (if s ∈ L.map Tb.nm then (0 : Int) else 11) = q := ⟨_, rfl⟩
            have HP0 := hid (HP1.out.new (below_drewN (Below.refl _ q1) 1))
            have HK0 : Hid (q1.drew.cell? ⟨wo.heap.size, 4, none⟩ = some (.string (str8 s))) := hid (cells5f (w := q1.drew) HC1.out).2.2.2.2.1
            obtain ⟨E4, f4, S4, hc4, hmv⟩ := HP0.out.cat
            have HMV := hid hmv
            have HDR := hid (cdrop_any sb mb E4 f4 L S4 s q1.drew hc4 (by have := HRA.out.2.1; unfold maxLen; exact this))
            rw [hq] at HDR
            clear hc4 hmv hd0 k1
            go_wp2_with fail
            go_region_held3 (fun w' => w'.cell? ⟨wo.heap.size, 4, none⟩ = some (.string (str8 s)))
              (first | exact HK0.out | exact HK5.out | exact HK6.out)
              (first
                | (go_at_call 23; refine HDR.out.mono ?_
                   rintro e w5 ⟨rfl, ⟨E5, f5, hc5⟩, hk5⟩
                   have HP5 := hid (HMV.out w5 E5 f5 (dropT L s) S4 hc5 (fun b hb => .inl hb) hk5)
                   have HK5 : Hid (w5.cell? ⟨wo.heap.size, 4, none⟩ = some (.string (str8 s))) := hid (hk5.cell HK0.out (fun e => by have : wo.heap.size = mb := e; omega))
                   obtain ⟨v6, css6, D6, hd6, hmd⟩ := HP5.out.doc
                   have HMD := hid hmd
                   have HRD := hid (rdrop_any rb v6 css6 T D6 s w5 hd6)
                   rw [dropE_perm HPM.out s, hq] at HRD
                   clear hc5 hk5 hd6 hmd)
                | (go_at_call 24; refine HRD.out.mono ?_
                   rintro e w6 ⟨rfl, ⟨v7, css7, D7, hd7, hD7⟩, hk7⟩
                   have HP6 := hid (HMD.out w6 v7 css7 (dropT T s) D7 hd7 hD7 hk7)
                   have HK6 : Hid (w6.cell? ⟨wo.heap.size, 4, none⟩ = some (.string (str8 s))) := hid (hk7.cell HK5.out (fun e => by have : wo.heap.size = rb := e; omega))
                   clear hd7 hD7 hk7))
            go_wp2_with fail
            go_meet
            exact ⟨_, _, HP6, hid (dropT_perm HPM.out s)⟩
          · by_cases hd2 : d = 2
            · subst hd2
              obtain ⟨E4, f4, S4, hc4, _⟩ := HP1.out.cat
              obtain ⟨is, his⟩ : ∃ is, decide (s ∈ L.map Tb.nm) = is := ⟨_, rfl⟩
              obtain ⟨ft, hft⟩ : ∃ ft, findT L s = ft := ⟨_, rfl⟩
              have HFI := hid (cfind_any sb mb E4 f4 L S4 s q1 hc4 (by have := HRA.out.2.1; unfold maxLen; exact this))
              rw [his, hft] at HFI
              have HON := hid hc4.once
              clear hc4 hd0 hd1
              go_wp2_with fail
              refine HFI.out.mono ?_
              rintro e q2 ⟨d2, rfl, ho2, hb2⟩
              have HO2 := hid ho2.e
              obtain ⟨a2, n2, c2, rfl, hown⟩ := ho2
              have hn2 : n2 = ft.cols.length := by
                rcases hown.2 with ⟨e, h⟩ | ⟨_, _, _, e, _⟩
                · simp only [Value.slice.injEq] at e; omega
                · simp only [Value.slice.injEq] at e; exact e.2.1
              subst hn2
              have hfl : ft.cols.length ≤ 9223372036854775807 := by
                rcases hown.2 with ⟨_, h⟩ | ⟨_, _, _, _, _, _, h1, h2, _⟩
                · omega
                · unfold maxLen at h2; omega
              obtain ⟨V, hV, hbV, hzV, hcV⟩ := box8 q2 (.cells #[.string (str8 ft.nm), .slice a2 ft.cols.length c2, .int .i64 ft.pr] 31)
              have hs2 := hb2.size
              have hbq : Below q1.heap.size q1 V := hb2.trans (hbV.mono hb2.size)
              have HPV := hid (HP1.out.hole hbq)
              obtain ⟨v4, css4, D4, hd4, _⟩ := HPV.out.doc
              have HRF := hid (rfind_any rb v4 css4 T D4 s V hd4)
              rw [findE_perm HPM.out s, findT_perm HPM.out hd4.ris.once HON.out s, his, hft] at HRF
              have kV := cells5f ((hbq.block wo.heap.size (by omega)).trans HC1.out)
              have HCV := hid hcV
              have HOV := hid (Spares.row (Spares.of_new (S := fun _ => False) hbV) hown (fun _ _ => id))
              have HO2V := hid (HO2.out.on hbV)
              clear hb2 hown hbV hcV hbq hd4 HFI k1 HO2
              go_wp2_with fail
              try rw [hV]
              refine HRF.out.mono ?_
              rintro e q3 ⟨d3, rfl, ho3, hb3⟩
              have HE3 := hid ho3.e
              obtain ⟨a3, n3, c3, rfl, _⟩ := ho3
              obtain ⟨Y, hY, hbY, hzY, hcY⟩ := box8 q3 (.cells #[.string (str8 ft.nm), .slice a3 n3 c3, .int .i64 ft.pr] 31)
              have hs3 := hb3.size
              have hVY : Below V.heap.size V Y := hb3.trans (hbY.mono hb3.size)
              have kY := cells3f hcY
              have HCY := hid ((hVY.block q2.heap.size hzV).trans HCV.out)
              have kYV := cells3f HCY.out
              have HSA := hid (sameTab_any _ _ ft ft _ _ Y (HO2V.out.on hVY) (HE3.out.on hbY))
              rw [(sameT_iff ft ft).2 rfl] at HSA
              have HPY := hid (HPV.out.new hVY)
              have HOY := hid (Spares.row (Spares.of_new (S := fun _ => False) hVY) HOV.out (fun _ _ => id))
              have hsY := hVY.size
              clear hb3 hbY hVY hcY HRF kV HE3 HO2V hV
              go_wp2_with fail
              try rw [hY]
              refine HSA.out.mono ?_
              rintro e q4 ⟨rfl, hb4⟩
              have hs4 := hb4.size
              have HP4 := hid (HPY.out.new hb4)
              have HO5 := hid (Spares.row (Spares.of_new (S := fun _ => False) hb4) HOY.out (fun _ _ => id))
              have hlt2 : q2.heap.size < V.heap.size := hzV
              have HCT := hid ((hb4.block q2.heap.size (by omega)).trans HCY.out)
              have hwq := HP1.out.below.size
              have HOL : Hid (∀ b, (Value.slice a2 ft.cols.length c2).ownBlock = some b → q1.heap.size ≤ b ∧ b < V.heap.size) := hid (fun b hb => HOV.out.lt b hb)
              clear hb4 HSA kY kYV hY
              go_wp2_with fail
              go_loopw [18] (fun i wr => ∃ (j : Nat) (xs : List Value), j ≤ ft.cols.length ∧ i = .int .i64 j ∧ wr.ownsRow q1.heap.size 37 4 (.slice a2 ft.cols.length c2) ft.cols.length xs ∧ Spares (fun k => (Value.slice a2 ft.cols.length c2).ownBlock = some k) q4 wr) (fun i _ => ft.cols.length - (intOf i).toNat)
              case atStart => exact ⟨0, _, Nat.zero_le _, rfl, HO5.out, Spares.refl _ _⟩
              case round =>
                obtain ⟨j, xs, hj, rfl, hor, hsr⟩ := hrel
                have hzr := hsr.size
                have hno : ∀ (B : Nat) (cs : Array Value), q4.heap[B]? = some (.cells cs 31) → wr.heap[B]? = some (.cells cs 31) := fun B cs hc => (hsr.block B (World.lt_of_block hc) (own_ne HO5.out hc)).trans hc
                have kT := cells3f (hno _ _ HCT.out)
                by_cases hlt : j < ft.cols.length
                · have hlt' : (j : Int) < (ft.cols.length : Int) := by omega
                  obtain ⟨g, rfl, hg⟩ : ∃ g, a2 = some ⟨g, 0, none⟩ ∧ q1.heap.size ≤ g := by
                    rcases hor.2 with ⟨e, h⟩ | ⟨g, cap, cur, e, hg, _⟩
                    · omega
                    · simp only [Value.slice.injEq] at e; exact ⟨g, e.1, hg⟩
                  have hcell : ∀ (Z : World) (ys : List Value), Z.ownsRow q1.heap.size 37 4 (.slice (some ⟨g, 0, none⟩) ft.cols.length c2) ft.cols.length ys → ∀ i, i < 4 → ∃ u, Z.cell? ⟨g, j * 4 + i, none⟩ = some u := fun Z ys ho i hi => by
                    rw [ho.cellAt (j * 4 + i) (by omega)]
                    exact ⟨_, List.getElem?_eq_getElem (by rw [ho.1]; omega)⟩
                  obtain ⟨u0, h0⟩ := hcell wr xs hor 0 (by omega)
                  rw [Nat.add_zero] at h0
                  have f0 := fun i => hor.frozenAt i
                  obtain ⟨X1, hX1⟩ : ∃ X1, wr.setCell ⟨g, j * 4, none⟩ (.string ⟨#[]⟩) = X1 := ⟨_, rfl⟩
                  have ho1 := hor.stored (j * 4) (.string ⟨#[]⟩)
                  rw [hX1] at ho1
                  obtain ⟨u1, h1⟩ := hcell X1 _ ho1.1 1 (by omega)
                  have f1 := fun i => ho1.1.frozenAt i
                  obtain ⟨X2, hX2⟩ : ∃ X2, X1.setCell ⟨g, j * 4 + 1, none⟩ (.int .i64 (-7)) = X2 := ⟨_, rfl⟩
                  have ho2 := ho1.1.stored (j * 4 + 1) (.int .i64 (-7))
                  rw [hX2] at ho2
                  obtain ⟨u2, h2⟩ := hcell X2 _ ho2.1 2 (by omega)
                  have f2 := fun i => ho2.1.frozenAt i
                  obtain ⟨X3, hX3⟩ : ∃ X3, X2.setCell ⟨g, j * 4 + 2, none⟩ (.bool false) = X3 := ⟨_, rfl⟩
                  have ho3 := ho2.1.stored (j * 4 + 2) (.bool false)
                  rw [hX3] at ho3
                  obtain ⟨u3, h3⟩ := hcell X3 _ ho3.1 3 (by omega)
                  have f3 := fun i => ho3.1.frozenAt i
                  obtain ⟨X4, hX4⟩ : ∃ X4, X3.setCell ⟨g, j * 4 + 3, none⟩ (.bool false) = X4 := ⟨_, rfl⟩
                  have ho4 := ho3.1.stored (j * 4 + 3) (.bool false)
                  rw [hX4] at ho4
                  have hgr : ∀ {a b : World}, a.grownBy b (some g) → Spares (fun k => (Value.slice (some ⟨g, 0, none⟩) ft.cols.length c2).ownBlock = some k) a b := fun h => Spares.of_grown h (fun k e => e)
                  have HS4 := hid ((((hsr.andThen (hgr ho1.2) (fun i hi => .inl hi)).andThen (hgr ho2.2) (fun i hi => .inl hi)).andThen (hgr ho3.2) (fun i hi => .inl hi)).andThen (hgr ho4.2) (fun i hi => .inl hi))
                  have HO4 := hid ho4.1
                  clear hor hsr hno hcell ho1 ho2 ho3 ho4 hgr
                  go_wp2
                  go_roundw
                  case rel => exact ⟨j + 1, _, Nat.succ_le_of_lt hlt, by go_num, HO4.out, HS4.out⟩
                  case measure => simp [intOf]; omega
                · have hlt' : ¬ (j : Int) < (ft.cols.length : Int) := by omega
                  have HPr := hid (HP4.out.spoil hsr (fun b hb => ⟨HOL.out b hb, by have := (HOL.out b hb).1; omega⟩)).all
                  clear hor hsr hno
                  have hiseq : (is != is) = false := by cases is <;> rfl
                  go_wp2_with fail
                  go_meet
                  exact ⟨_, _, HPr, HPM⟩
            · have he0 : (d == 0) = false := by rw [beq_eq_false_iff_ne]; exact hd0
              have he1 : (d == 1) = false := by rw [beq_eq_false_iff_ne]; exact hd1
              have he2 : (d == 2) = false := by rw [beq_eq_false_iff_ne]; exact hd2
              go_wp2_with fail
              go_meet
              exact ⟨_, _, HP1, HPM⟩
      case rest =>
        obtain ⟨L', T', HP, HPT⟩ := hcut
        clear HP1 HPM k1
        obtain ⟨E4, f4, S4, hc4, _⟩ := HP.out.cat
        have HAL := hid (callP_any sb mb E4 f4 L' S4 wc hc4)
        clear hc4
        go_wp2_with fail
        refine HAL.out.mono ?_
        rintro e q2 ⟨v9, T9, rfl, hp9, hso9, hsl9, hb9⟩
        have HP2 := hid (HP.out.hole hb9)
        obtain ⟨vd, cd, Dd, hd2, _⟩ := HP2.out.doc
        obtain rfl : T9 = T' := ris_unique hd2.ris (hp9.trans HPT.out.symm) hso9
        have h6 := hd2.six
        have hcR := hd2.cell
        have hslE : SlAt 3 TbE (fun b => wc.heap.size ≤ b) q2 T9 v9 := hsl9.chg (fun b hb => hb) (fun _ _ e => TbS.e (TbS.to e (R := fun _ => False) (Spares.refl _ _) (fun b hb _ => ⟨id, hb.1⟩)))
        have HSA := hid (sameAll_any _ Dd T9 v9 vd q2 hslE hd2.sl)
        have HSL := hid hsl9
        have hs9 := hb9.size
        have hwc := HP.out.below.size
        clear hp9 hso9 hslE hd2 HAL hsl9 hb9
        go_wp2_with fail
        refine HSA.out.mono ?_
        rintro e q3 ⟨rfl, hb3⟩
        have HP3 := hid (HP2.out.new hb3)
        have hs3 := hb3.size
        obtain ⟨av, cv, css, hv9, hlc, hcm, hels, hat9⟩ := id HSL.out
        subst hv9
        unfold maxLen at hcm
        have HELS := hid hels
        have HSP0 : Hid (SpA wc.heap.size q2.heap.size (.slice av T9.length cv) css q3 q3) := hid ⟨Spares.refl _ _, fun j cs hj => by
          obtain ⟨x, hx⟩ : ∃ x, T9[j]? = some x := ⟨_, List.getElem?_eq_getElem (by have := (List.getElem?_eq_some_iff.1 hj).1; rw [hels.1] at this; exact this)⟩
          obtain ⟨aa, nn, cc, h1, h2, h3⟩ := (hels.2 j x cs hx hj).2
          exact ⟨_, aa, nn, cc, _, h1, ⟨_, _, Spares.row (Spares.of_new (S := fun _ => False) hb3) h2 (fun _ _ => id)⟩, fun b hb => ⟨(h3 b hb).1, (h2.lt b hb).2, (h3 b hb).2⟩⟩⟩
        have HAT : Hid (T9 ≠ [] → ∃ b off, av = some ⟨b, off, none⟩ ∧ ∀ (j : Nat) (cs : List Value), css[j]? = some cs → ∀ (i : Nat) (u : Value), cs[i]? = some u → q3.cell? ⟨b, off + j * 3 + i, none⟩ = some u) := hid (fun hne => by
          obtain ⟨b, off, h1, _, h3⟩ := hat9 hne
          exact ⟨b, off, h1, fun j cs hj i u hu => (Spares.of_new (S := fun _ => False) hb3).cell (h3 j cs hj i u hu) id⟩)
        have hcl : css.length = T9.length := hels.1
        clear hels hat9 hb3 HSA HSL hcR
        go_wp2_with fail
        go_loopw [21] (fun i wr => ∃ m : Nat, m ≤ T9.length ∧ i = .int .i64 m ∧ Hid (SpA wc.heap.size q2.heap.size (.slice av T9.length cv) css q3 wr)) (fun i _ => T9.length - (intOf i).toNat)
        case atStart => exact ⟨0, Nat.zero_le _, rfl, HSP0⟩
        case round =>
          clear HSP0
          obtain ⟨m, hm, rfl, HSO⟩ := hrel
          obtain ⟨wp, rfl⟩ : ∃ wp, wp = wr := ⟨_, rfl⟩
          by_cases hlt : m < T9.length
          · have hlt' : (m : Int) < (T9.length : Int) := by omega
            obtain ⟨cs, hcs⟩ : ∃ cs, css[m]? = some cs := ⟨_, List.getElem?_eq_getElem (by omega)⟩
            obtain ⟨b, off, rfl, hce⟩ := HAT.out (fun e => by rw [e] at hlt; exact absurd hlt (Nat.not_lt_zero _))
            obtain ⟨sx, ax, nx, cx, px, rfl, hwx, hbx⟩ := HSO.out.2 m cs hcs
            have hnx := (Wrt.at hwx).1
            unfold maxLen at hnx
            have HCS := hid hcs
            have HBX := hid hbx
            have HL1 : Hid (∀ Z, SpA wc.heap.size q2.heap.size (.slice (some ⟨b, off, none⟩) T9.length cv) css q3 Z → Z.cell? ⟨b, off + m * 3 + 1, none⟩ = some (.slice ax nx cx)) := hid (fun Z hZ => hZ.1.cell (hce m _ hcs 1 _ rfl) (fun h => h.2.2 rfl))
            clear hwx hbx hcs hce
            go_wp2_with fail
            go_loopw [22] (fun i wr => ∃ j : Nat, j ≤ nx ∧ i = .int .i64 j ∧ Hid (SpA wc.heap.size q2.heap.size (.slice (some ⟨b, off, none⟩) T9.length cv) css q3 wr)) (fun i _ => nx - (intOf i).toNat)
            case atStart => exact ⟨0, Nat.zero_le _, rfl, HSO⟩
            case round =>
              clear HSO
              obtain ⟨j, hj, rfl, HSI⟩ := hrel
              have l1 := HL1.out wr HSI.out
              by_cases hjl : j < nx
              · have hjl' : (j : Int) < (nx : Int) := by omega
                obtain ⟨_, _, _, _, _, e, hwx, _⟩ := HSI.out.2 m _ HCS.out
                simp only [List.cons.injEq, Value.slice.injEq, and_true] at e
                obtain ⟨_, ⟨rfl, rfl, rfl⟩, _⟩ := e
                obtain ⟨g, rfl, f0, hcell⟩ := (Wrt.at hwx).2 (by omega)
                have hgb := HBX.out g rfl
                obtain ⟨u0, h0⟩ := hcell (j * 4) (by omega)
                have hstep : ∀ (Z : World) (i : Nat), SpA wc.heap.size q2.heap.size (.slice (some ⟨b, off, none⟩) T9.length cv) css q3 Z → i < 4 → (∀ i, Z.frozen? ⟨g, i, none⟩ = false) ∧ ∃ u, Z.cell? ⟨g, j * 4 + i, none⟩ = some u := fun Z i hZ hi => by
                  obtain ⟨_, _, _, _, _, e, hwx, _⟩ := hZ.2 m _ HCS.out
                  simp only [List.cons.injEq, Value.slice.injEq, and_true] at e
                  obtain ⟨_, ⟨rfl, rfl, rfl⟩, _⟩ := e
                  obtain ⟨g', eg, f0, hcell⟩ := (Wrt.at hwx).2 (by omega)
                  simp only [Option.some.injEq, Addr.mk.injEq, and_true] at eg
                  subst eg
                  exact ⟨f0, hcell (j * 4 + i) (by omega)⟩
                obtain ⟨X1, hX1⟩ : ∃ X1, wr.setCell ⟨g, j * 4, none⟩ (.string ⟨#[]⟩) = X1 := ⟨_, rfl⟩
                have s1 := HSI.out.set g (j * 4) (.string ⟨#[]⟩) hgb
                rw [hX1] at s1
                obtain ⟨f1, u1, h1⟩ := hstep X1 1 s1 (by omega)
                obtain ⟨X2, hX2⟩ : ∃ X2, X1.setCell ⟨g, j * 4 + 1, none⟩ (.int .i64 (-7)) = X2 := ⟨_, rfl⟩
                have s2 := s1.set g (j * 4 + 1) (.int .i64 (-7)) hgb
                rw [hX2] at s2
                obtain ⟨f2, u2, h2⟩ := hstep X2 2 s2 (by omega)
                obtain ⟨X3, hX3⟩ : ∃ X3, X2.setCell ⟨g, j * 4 + 2, none⟩ (.bool false) = X3 := ⟨_, rfl⟩
                have s3 := s2.set g (j * 4 + 2) (.bool false) hgb
                rw [hX3] at s3
                obtain ⟨f3, u3, h3⟩ := hstep X3 3 s3 (by omega)
                obtain ⟨X4, hX4⟩ : ∃ X4, X3.setCell ⟨g, j * 4 + 3, none⟩ (.bool false) = X4 := ⟨_, rfl⟩
                have s4 := s3.set g (j * 4 + 3) (.bool false) hgb
                rw [hX4] at s4
                have HS4 := hid s4
                clear hwx hcell hstep s1 s2 s3 s4
                go_wp2
                go_roundw
                case rel => exact ⟨j + 1, by omega, by go_num, HS4⟩
                case measure => simp [intOf]; omega
              · have hjl' : ¬ (j : Int) < (nx : Int) := by omega
                go_wp2
                go_roundw
                case rel => exact ⟨m + 1, by omega, by go_num, HSI⟩
                case measure => simp [intOf]; omega
          · have hlt' : ¬ (m : Int) < (T9.length : Int) := by omega
            have HP4 := hid (HP3.out.spoil HSO.out.1 (fun b hb => ⟨⟨hb.1, hb.2.1⟩, by have := hb.1; omega⟩)).all
            have HP5 := hid (HP4.out.new (below_drewN (Below.refl _ wp) 1))
            obtain ⟨E5, f5, S5, hc5, _⟩ := HP5.out.cat
            obtain ⟨ve, ce, De, hde, _⟩ := HP5.out.doc
            have HDE := hid hde
            have HK5 : Hid (wp.drew.cell? ⟨rb, 0, none⟩ = some ve) := hid hde.cell
            have HAL := hid (callP_any sb mb E5 f5 L' S5 wp.drew hc5)
            clear hde hc5
            go_wp2_with fail
            go_region_held3 (fun w' => w'.cell? ⟨rb, 0, none⟩ = some ve)
              (first | exact HK5.out | exact HK6.out | exact HK7.out)
              (first
                | (go_at_call 27; refine HAL.out.mono ?_
                   rintro e w6 ⟨vq, TQ, rfl, hpq, hsoq, hslq, hbq⟩
                   have HP6 := hid (HP5.out.new hbq)
                   have hdq := HDE.out.new hbq
                   have HK6 : Hid (w6.cell? ⟨rb, 0, none⟩ = some ve) := hid hdq.cell
                   obtain rfl : TQ = T9 := ris_unique hdq.ris (hpq.trans HPT.out.symm) hsoq
                   have hslE : SlAt 3 TbE (fun b => wp.drew.heap.size ≤ b) w6 TQ vq := hslq.chg (fun b hb => hb) (fun _ _ e => TbS.e (TbS.to e (R := fun _ => False) (Spares.refl _ _) (fun b hb _ => ⟨id, hb.1⟩)))
                   have HSA := hid (sameAll_any _ De TQ vq ve w6 hslE hdq.sl)
                   clear hpq hsoq hslq hbq hdq hslE)
                | (go_at_call 28; refine HSA.out.mono ?_
                   rintro e w7 ⟨rfl, hb7⟩
                   have HP7 := hid (HP6.out.new hb7)
                   have HK7 : Hid (w7.cell? ⟨rb, 0, none⟩ = some ve) := hid (hb7.cell (p := ⟨rb, 0, none⟩) (World.block_lt_of_cell? w6 _ HK6.out) |>.trans HK6.out)
                   clear hb7))
            go_wp2
            go_roundw
            case rel => exact ⟨k + 1, L', _, by omega, by go_num, HP7, HPT⟩
            case measure => simp [intOf]; omega
    · have hend : ¬ ((k : Int) < (l.length : Int)) ∨ ((k : Int) < (l.length : Int) ∧ ¬ ((k : Int) < 40)) := by omega
      clear hlt
      rcases hend with hend | ⟨hend, hend2⟩
      · have HP5 := hid (HF.out.new (below_drewN (Below.refl _ wo) 1))
        obtain ⟨E5, f5, S5, hc5, _⟩ := HP5.out.cat
        obtain ⟨ve, ce, De, hde, _⟩ := HP5.out.doc
        have HDE := hid hde
        have HK5 : Hid (wo.drew.cell? ⟨rb, 0, none⟩ = some ve) := hid hde.cell
        have HAL := hid (callP_any sb mb E5 f5 L S5 wo.drew hc5)
        clear hde hc5
        go_wp2_with fail
        go_region_held3 (fun w' => w'.cell? ⟨rb, 0, none⟩ = some ve)
          (first | exact HK5.out | exact HK6.out | exact HK7.out)
          (first
            | (go_at_call 27; refine HAL.out.mono ?_
               rintro e w6 ⟨vq, TQ, rfl, hpq, hsoq, hslq, hbq⟩
               have HP6 := hid (HP5.out.new hbq)
               have hdq := HDE.out.new hbq
               have HK6 : Hid (w6.cell? ⟨rb, 0, none⟩ = some ve) := hid hdq.cell
               obtain rfl : TQ = T := ris_unique hdq.ris (hpq.trans HPM.out.symm) hsoq
               have hslE : SlAt 3 TbE (fun b => wo.drew.heap.size ≤ b) w6 TQ vq := hslq.chg (fun b hb => hb) (fun _ _ e => TbS.e (TbS.to e (R := fun _ => False) (Spares.refl _ _) (fun b hb _ => ⟨id, hb.1⟩)))
               have HSA := hid (sameAll_any _ De TQ vq ve w6 hslE hdq.sl)
               clear hpq hsoq hslq hbq hdq hslE)
            | (go_at_call 28; refine HSA.out.mono ?_
               rintro e w7 ⟨rfl, hb7⟩
               have HP7 := hid (HP6.out.new hb7)
               have HK7 : Hid (w7.cell? ⟨rb, 0, none⟩ = some ve) := hid (hb7.cell (p := ⟨rb, 0, none⟩) (World.block_lt_of_cell? w6 _ HK6.out) |>.trans HK6.out)
               clear hb7))
        go_wp2
        go_ret
        exact ⟨rfl, HP7.out.below⟩
      · have HP5 := hid (HF.out.new (below_drewN (Below.refl _ wo) 1))
        obtain ⟨E5, f5, S5, hc5, _⟩ := HP5.out.cat
        obtain ⟨ve, ce, De, hde, _⟩ := HP5.out.doc
        have HDE := hid hde
        have HK5 : Hid (wo.drew.cell? ⟨rb, 0, none⟩ = some ve) := hid hde.cell
        have HAL := hid (callP_any sb mb E5 f5 L S5 wo.drew hc5)
        clear hde hc5
        go_wp2_with fail
        go_region_held3 (fun w' => w'.cell? ⟨rb, 0, none⟩ = some ve)
          (first | exact HK5.out | exact HK6.out | exact HK7.out)
          (first
            | (go_at_call 27; refine HAL.out.mono ?_
               rintro e w6 ⟨vq, TQ, rfl, hpq, hsoq, hslq, hbq⟩
               have HP6 := hid (HP5.out.new hbq)
               have hdq := HDE.out.new hbq
               have HK6 : Hid (w6.cell? ⟨rb, 0, none⟩ = some ve) := hid hdq.cell
               obtain rfl : TQ = T := ris_unique hdq.ris (hpq.trans HPM.out.symm) hsoq
               have hslE : SlAt 3 TbE (fun b => wo.drew.heap.size ≤ b) w6 TQ vq := hslq.chg (fun b hb => hb) (fun _ _ e => TbS.e (TbS.to e (R := fun _ => False) (Spares.refl _ _) (fun b hb _ => ⟨id, hb.1⟩)))
               have HSA := hid (sameAll_any _ De TQ vq ve w6 hslE hdq.sl)
               clear hpq hsoq hslq hbq hdq hslE)
            | (go_at_call 28; refine HSA.out.mono ?_
               rintro e w7 ⟨rfl, hb7⟩
               have HP7 := hid (HP6.out.new hb7)
               have HK7 : Hid (w7.cell? ⟨rb, 0, none⟩ = some ve) := hid (hb7.cell (p := ⟨rb, 0, none⟩) (World.block_lt_of_cell? w6 _ HK6.out) |>.trans HK6.out)
               clear hb7))
        go_wp2
        go_ret
        exact ⟨rfl, HP7.out.below⟩
end Go.Proofs.YtaaggohjmhifbaaGreatDoor
