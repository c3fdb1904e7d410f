/- The walk of BtreeShapes. -/
import Derived.Test.YtjfipejfejmlaaaBtRow
import Derived.Test.YtjfipejfejmlaaaBtSmall
import Derived.Test.YtjfipejfejmlaaaBtRangesL
namespace Go.Proofs.Ytjfipejfejmlaaa
open Go.RowKit Go.Shelf
set_option linter.unusedVariables false
set_option linter.unusedSimpArgs false
set_option maxRecDepth 20000

/-- One page of the leaves. -/
theorem Leaves.at {w : World} {a : Option Addr} {n c k : Nat} {Q : List (List EntV)} (h : Leaves w (.slice a n c) Q) (hk : k < Q.length) :
    ∃ b off q pa pc, a = some ⟨b, off, none⟩ ∧ b < w.heap.size ∧ Q[k]? = some q ∧ w.cell? ⟨b, off + k, none⟩ = some (.slice pa q.length pc) ∧ Ents w.heap.size w (.slice pa q.length pc) q ∧ ∀ l c, (Value.slice pa q.length pc) = .slice none l c → c = 0 := by
  obtain ⟨b, off, c', h1, h2, h3, h4⟩ := h
  simp only [Value.slice.injEq] at h1
  obtain ⟨rfl, _, rfl⟩ := h1
  obtain ⟨q, hq⟩ : ∃ q, Q[k]? = some q := ⟨_, List.getElem?_eq_getElem hk⟩
  obtain ⟨v, k1, k2, k3⟩ := h4 k q hq
  obtain ⟨pa, pc, rfl, _⟩ := id k2
  exact ⟨b, off, q, pa, pc, rfl, World.block_lt_of_cell? w _ k1, hq, k1, k2, k3⟩

theorem Leaves.form {w : World} {pv : Value} {Q : List (List EntV)} (h : Leaves w pv Q) : ∃ a c, pv = .slice a Q.length c ∧ Q.length ≤ 9223372036854775807 := by
  obtain ⟨b, off, c, h1, h2, h3, _⟩ := h
  unfold maxLen at h3
  exact ⟨_, c, h1, by omega⟩

theorem flatten_take (Q : List (List EntV)) (k : Nat) (q : List EntV) (h : Q[k]? = some q) : (Q.take (k + 1)).flatten = (Q.take k).flatten ++ q := by
  have hk := (List.getElem?_eq_some_iff.1 h).1
  rw [List.take_succ_eq_append_getElem hk, (List.getElem?_eq_some_iff.1 h).2]
  simp

theorem flatten_few (Q : List (List EntV)) (k : Nat) : (Q.take k).flatten.length ≤ Q.flatten.length := by
  have h : Q.flatten = (Q.take k).flatten ++ (Q.drop k).flatten := by rw [← List.flatten_append, List.take_append_drop]
  rw [h, List.length_append]
  omega

theorem rises_step {L : List Ent} (hr : Tri.Rises L) {k : Nat} {e f : Ent} (hk : 0 < k) (he : L[k]? = some e) (hf : L[k - 1]? = some f) : Op.bytesLess f.1 e.1 = true := by
  have h1 := (List.getElem?_eq_some_iff.1 he)
  have h2 := (List.getElem?_eq_some_iff.1 hf)
  have := List.pairwise_iff_getElem.1 hr (k - 1) k h2.1 h1.1 (by omega)
  rw [h1.2, h2.2] at this
  exact this

set_option maxHeartbeats 16000000 in
theorem shapes_law {BT : (Nat → Prop) → World → Nat → List (List Ent) → Nat → Prop} (HA : Api BT) (v : Value) (xs : List ActB) (w : World) (h1 : ActsB w.heap.size w v xs) :
    Calls Try.prog 4 #[v] w fun e w' => e = .returned (.bool true) ∧ Below w.heap.size w w' := by
  obtain ⟨a1, c1', rfl, hc1, hc1', _⟩ := id h1
  unfold maxLen at hc1'
  have HX := hid h1
  clear h1
  go_enter Try.func4, Try.ntmps4
  go_wp2_with fail
  refine (small_any HA w).mono ?_
  rintro e w1 ⟨rfl, hb1⟩
  have HB1 := hid hb1
  clear hb1
  go_wp2_with fail
  refine (HA.newB w1).mono ?_
  rintro e w2 ⟨tb, rfl, R2, hb2⟩
  have HR2 : Hid (BL BT (fun i => w.heap.size ≤ i) w2 tb []) := hid (R2.mono (fun i hi => by have := HB1.out.size; omega))
  have HB2 := htr HB1 hb2
  clear R2 hb2
  go_wp2_with fail
  go_loopw [5, 6, 7, 8, 9, 10] (fun i u6 u7 u8 u9 u10 wr => ∃ (k : Nat) (L : List Ent), k ≤ 80 ∧ k ≤ xs.length ∧ i = .int .i64 (k : Int) ∧ L.length ≤ k ∧ Hid (BL BT (fun i => w.heap.size ≤ i) wr tb L) ∧ Hid (Below w.heap.size w wr)) (fun i _ _ _ _ _ _ => 80 - (intOf i).toNat)
  case atStart => exact ⟨0, [], by omega, by omega, rfl, by simp, HR2, HB2⟩
  case round =>
    clear HR2 HB2
    obtain ⟨k, L, hk, hkl, rfl, hL, HR, HB⟩ := hrel
    have hszr := HB.out.size
    by_cases hgo : k < xs.length ∧ k < 80
    · obtain ⟨hlt, h80⟩ := hgo
      have hki : (k : Int) < (xs.length : Int) := by omega
      have hk80 : (k : Int) < 80 := by omega
      have hk0 : (0 : Int) ≤ (k : Int) := by omega
      obtain ⟨b, off, ⟨d, kv, vv, fv, tv, en, kb, vb, fb, tb'⟩, rfl, hbl, hx, hc, i0, s1, s2, _, _⟩ := (HX.out.below HB.out).at k hlt
      obtain ⟨ka, kc, rfl⟩ : ∃ a c, kv = .slice a kb.length c := s1.form
      obtain ⟨va, vc, rfl⟩ : ∃ a c, vv = .slice a vb.length c := s2.form
      have HC0 : Hid (∀ W, Below w.heap.size wr W → W.cell? ⟨b, off + k * 6, none⟩ = some (.int .i64 d) ∧ W.cell? ⟨b, off + k * 6 + 1, none⟩ = some (.slice ka kb.length kc) ∧ W.cell? ⟨b, off + k * 6 + 2, none⟩ = some (.slice va vb.length vc)) := hid fun W hW => ⟨(hc W hW).1, (hc W hW).2.1, (hc W hW).2.2.1⟩
      have HS : Hid (∀ W, Below w.heap.size wr W → Says W (.slice ka kb.length kc) kb ∧ Says W (.slice va vb.length vc) vb) := hid fun W hW => ⟨s1.says hW (by have := hW.size; omega), s2.says hW (by have := hW.size; omega)⟩
      have HFN : Hid (Fine (kb, vb)) := hid ⟨s1.2, s2.2⟩
      simp only at i0
      clear hc s1 s2 hx
      have c0 := (HC0.out wr (Below.refl _ _)).1
      go_upto_if 34 with fail
      go_cut [] from 19 to 165 (fun wx => ∃ L1 : List Ent, L1.length ≤ k + 1 ∧ (d = 0 ∨ L1.length ≤ k) ∧ Hid (BL BT (fun i => w.heap.size ≤ i) wx tb L1) ∧ Hid (Below w.heap.size wr wx))
      case first =>
        by_cases hd0 : d = 0
        · subst hd0
          have hS0 : wr.drew.cell? ⟨b, off + k * 6 + 1, none⟩ = some (.slice ka kb.length kc) ∧ wr.drew.cell? ⟨b, off + k * 6 + 2, none⟩ = some (.slice va vb.length vc) := (HC0.out wr (Below.refl _ _)).2
          have hb0 : Below wr.heap.size wr wr.drew := below_drewN _ wr 1
          have HP := HA.putB _ _ kb vb (HA.newL HR.out hb0) (fun i hi => by have := hb0.size; omega) (HS.out _ (hb0.mono hszr)).1 (HS.out _ (hb0.mono hszr)).2 HFN.out (by omega)
          have HFW := hid (putL_few L (kb, vb))
          generalize putL L (kb, vb) = L' at *
          generalize hitK L kb = r at *
          clear hb0
          go_wp2_with fail
          go_region_held3 (fun w' => w'.cell? ⟨b, off + k * 6 + 1, none⟩ = some (.slice ka kb.length kc) ∧ w'.cell? ⟨b, off + k * 6 + 2, none⟩ = some (.slice va vb.length vc))
            (first | assumption)
            ((go_at_call 11; refine HP.mono ?_; clear HP; rintro e wn ⟨rfl, Rn, hsn⟩
              have hbn : Below w.heap.size wr wn := (below_drewN _ wr 1).trans (hsn.below (fun i hi => hi) hszr)
              have hSn := (HC0.out wn hbn).2))
          go_wp2_with fail
          go_meet
          case rel => exact ⟨L', by have := HFW.out; omega, by first | exact .inl rfl | exact .inl trivial, hid Rn, hid hbn⟩
        · have hd0' : (d == 0) = false := by simpa using hd0
          go_wp2_with fail
          go_meet
          case rel => exact ⟨L, by omega, .inr hL, HR, hid (Below.refl _ _)⟩
      case rest =>
        clear HR c0
        obtain ⟨L1, hl1, hl1', HR1, HBC⟩ := hcut
        have c0 := (HC0.out wc HBC.out).1
        have hsz1 : w.heap.size ≤ wc.heap.size := by have := HBC.out.size; omega
        obtain ⟨wy, hwy⟩ : ∃ wy, wy = wc := ⟨_, rfl⟩
        subst hwy
        go_upto_if 52 with fail
        go_cut [] from 19 to 165 (fun wx => ∃ L1 : List Ent, L1.length ≤ k + 1 ∧ Hid (BL BT (fun i => w.heap.size ≤ i) wx tb L1) ∧ Hid (Below w.heap.size wy wx))
        case first =>
          by_cases hd1 : d = 1
          · subst hd1
            have hln : L1.length ≤ k := by rcases hl1' with h | h <;> omega
            have c1 := (HC0.out wy HBC.out).2.1
            have HD := HA.deleteB _ kb HR1.out (fun i hi => by omega) (HS.out _ HBC.out).1 (by omega)
            have HFW := hid (delL_few L1 kb)
            generalize delL L1 kb = L' at *
            generalize hitK L1 kb = r at *
            go_wp2_with fail
            refine HD.mono ?_
            clear HD
            rintro e wn ⟨rfl, Rn, hsn⟩
            go_wp2_with fail
            go_meet
            case rel => exact ⟨L', by have := HFW.out; omega, hid Rn, hid (hsn.below (fun i hi => hi) hsz1)⟩
          · have hd1' : (d == 1) = false := by simpa using hd1
            go_wp2_with fail
            go_meet
            case rel => exact ⟨L1, by omega, HR1, hid (Below.refl _ _)⟩
        case rest =>
          have HB3 := hid ((HB.out.trans HBC.out))
          clear HR1 c0 HC0 HS HFN HBC hl1' HB
          obtain ⟨L2, hl2, HR2, HBD⟩ := hcut
          have HB4 := hid (HB3.out.trans HBD.out)
          clear HB3 HBD hsz1 hszr
          obtain ⟨wz, hwz⟩ : ∃ wz, wz = wc := ⟨_, rfl⟩
          subst hwz
          obtain ⟨S, P, dd, hS, hP, hSA⟩ := id HR2.out
          have hpl : P.flatten.length ≤ 81 := by rw [hP]; omega
          have HGD := hid (HA.good hS)
          have HTP : Hid (∀ W, Below wz.heap.size wz W → BT S W tb P dd) := hid (fun W hW => HA.keep hS (R := fun _ => False) (Spares.of_new hW) (fun _ _ => id))
          have HPG := hid (HA.pages hS (by omega))
          have HRS := hid (HA.rises HR2.out)
          clear hS
          go_wp2_with fail
          refine HPG.out.mono ?_
          clear HPG
          rintro e v1 ⟨pv, Q, rfl, q1, q2, hb1⟩
          obtain ⟨pa, pc, rfl, hql⟩ := q1.form
          have HD1 := hid hb1
          have HLV := hid q1
          have HQP := hid q2
          have hz1 := hb1.size
          clear q1 q2 hb1
          have HDP := hid (HA.depth (HTP.out v1 HD1.out) (by omega))
          go_wp2_with fail
          refine HDP.out.mono ?_
          clear HDP
          rintro e v2 ⟨rfl, hb2⟩
          have HD2 := htr HD1 hb2
          have HLV2 := hid (HLV.out.new hb2)
          have HQF : Hid (Q.flatten.map EntV.ent = L2) := hid (by rw [← hP, ← HQP.out, List.map_flatten])
          have hqf : Q.flatten.length ≤ 81 := by rw [← List.length_map (f := EntV.ent), HQF.out]; omega
          have hz2 := hb2.size
          clear hb2 HLV HD1
          go_wp2_with fail
          go_loopw [8, 9] (fun u8 u9 wr => ∃ j : Nat, j ≤ Q.length ∧ u9 = .int .i64 (j : Int) ∧ (∃ sa sn sc, u8 = .slice sa sn sc) ∧ Hid (wr.ownsRow v2.heap.size 46 2 u8 ((Q.take j).flatten).length ((Q.take j).flatten.flatMap EntV.two)) ∧ Hid (Below v2.heap.size v2 wr)) (fun _ u9 _ => Q.length - (intOf u9).toNat)
          case atStart => exact ⟨0, by omega, rfl, ⟨_, _, _, rfl⟩, hid (World.ownsRow_nil _ _ _ _), hid (Below.refl _ _)⟩
          case round =>
            obtain ⟨j, hj, rfl, ⟨sa, sn, sc, rfl⟩, HO, HBJ⟩ := hrel
            by_cases hlj : j < Q.length
            · obtain ⟨b3, off3, q, qa, qc, rfl, hb3, hq, d0, hE, hnil⟩ := (HLV2.out.new HBJ.out).at hlj
              have hji : (j : Int) < (Q.length : Int) := by omega
              have hj0 : (0 : Int) ≤ (j : Int) := by omega
              have hqm : q.map EntV.ent ∈ P := by rw [← HQP.out]; exact List.mem_map.2 ⟨q, List.mem_of_getElem? hq, rfl⟩
              have hq4 : q.length ≤ 4 := by have := HGD.out.most _ hqm; rwa [List.length_map] at this
              have hPl : P.length = Q.length := by rw [← HQP.out, List.length_map]
              have hq2 : 1 < Q.length → 2 ≤ q.length := fun h => by have := HGD.out.least (by omega) _ hqm; rwa [List.length_map] at this
              have hq4' : ¬ (4 : Int) < (q.length : Int) := by omega
              have hq4'' : decide ((4 : Int) < (q.length : Int)) = false := by simpa using hq4'
              have hfl := hid (flatten_take Q j q hq)
              have hfw := flatten_few Q j
              have HJX := hid hlj
              have HEQ := hid hE
              have HNL := hid hnil
              clear hqm hPl hE hnil hq
              generalize (Q.take j).flatten = F at *
              by_cases h1 : 1 < Q.length
              · have h1i : (1 : Int) < (Q.length : Int) := by omega
                have h1d : decide ((1 : Int) < (Q.length : Int)) = true := by simpa using h1i
                have h2n := hq2 h1
                have h2i : ¬ (q.length : Int) < 2 := by omega
                have h2d : decide ((q.length : Int) < 2) = false := by simpa using h2i
                clear hq2
                go_wp2_with (first
                  | (at_builtin; refine wpList_append_ents _ rfl (.tmp 89) (.tmp 93) rfl v2.heap.size _ _ _ rfl HO.out _ _ q rfl HEQ.out HNL.out (by omega) (by have := HBJ.out.size; omega) ?_))
                intro vA wA oA gA
                obtain ⟨⟨aA, cA, rfl⟩, _⟩ := row_form2 oA
                have HBA := hid (HBJ.out.grown gA HBJ.out.size (fun g hg => (HO.out.lt g hg).1))
                have HOA : Hid (wA.ownsRow v2.heap.size 46 2 (.slice aA (F.length + q.length) cA) ((Q.take (j + 1)).flatten).length ((Q.take (j + 1)).flatten.flatMap EntV.two)) := hid (by
                  rw [hfl.out, List.length_append, List.flatMap_append]
                  exact oA)
                clear oA gA HO HBJ
                go_wp2
                go_roundw
                case rel => exact ⟨j + 1, HJX.out, by go_num, ⟨_, _, _, rfl⟩, HOA, HBA⟩
                case measure => have := HJX.out; simp [intOf]; omega
              · have h1i : ¬ (1 : Int) < (Q.length : Int) := by omega
                have h1d : decide ((1 : Int) < (Q.length : Int)) = false := by simpa using h1i
                clear hq2
                go_wp2_with (first
                  | (at_builtin; refine wpList_append_ents _ rfl (.tmp 89) (.tmp 93) rfl v2.heap.size _ _ _ rfl HO.out _ _ q rfl HEQ.out HNL.out (by omega) (by have := HBJ.out.size; omega) ?_))
                intro vA wA oA gA
                obtain ⟨⟨aA, cA, rfl⟩, _⟩ := row_form2 oA
                have HBA := hid (HBJ.out.grown gA HBJ.out.size (fun g hg => (HO.out.lt g hg).1))
                have HOA : Hid (wA.ownsRow v2.heap.size 46 2 (.slice aA (F.length + q.length) cA) ((Q.take (j + 1)).flatten).length ((Q.take (j + 1)).flatten.flatMap EntV.two)) := hid (by
                  rw [hfl.out, List.length_append, List.flatMap_append]
                  exact oA)
                clear oA gA HO HBJ
                go_wp2
                go_roundw
                case rel => exact ⟨j + 1, HJX.out, by go_num, ⟨_, _, _, rfl⟩, HOA, HBA⟩
                case measure => have := HJX.out; simp [intOf]; omega
            · have hji : ¬ (j : Int) < (Q.length : Int) := by omega
              have hjj : j = Q.length := by omega
              obtain ⟨F, hF⟩ : ∃ F, Q.flatten = F := ⟨_, rfl⟩
              have HOF : Hid (wr.ownsRow v2.heap.size 46 2 (.slice sa sn sc) F.length (F.flatMap EntV.two)) := hid (by
                have := HO.out
                rw [hjj, List.take_length, hF] at this
                exact this)
              rw [hF] at HQF hqf
              obtain ⟨⟨xa, xc, hsx⟩, _⟩ := row_form2 HOF.out
              simp only [Value.slice.injEq] at hsx
              obtain ⟨rfl, rfl, rfl⟩ := hsx
              have HEF : Hid (Ents wr.heap.size wr (.slice sa F.length sc) F) := hid (by
                refine ents_made HOF.out (fun y hy => ?_)
                obtain ⟨q, hq, hyq⟩ := List.mem_flatten.1 (hF ▸ hy)
                obtain ⟨i, hi⟩ := List.getElem?_of_mem hq
                obtain ⟨_, _, q', _, _, _, _, hq', _, hE, _⟩ := (HLV2.out.new HBJ.out).at (k := i) (List.getElem?_eq_some_iff.1 hi).1
                rw [hi] at hq'
                cases hq'
                exact hE.says (Nat.le_refl _) y hyq)
              have hfl9 : F.length ≤ 9223372036854775807 := by omega
              have HWJ := hid (HD2.out.trans (HBJ.out.mono HD2.out.size))
              clear hF hjj HO HLV2 HOF
              obtain ⟨wj, hwj⟩ : ∃ wj, wj = wr := ⟨_, rfl⟩
              subst hwj
              go_wp2_with fail
              go_loopw [10] (fun u10 wr => ∃ m : Nat, 1 ≤ m ∧ m ≤ F.length + 1 ∧ u10 = .int .i64 (m : Int) ∧ Hid (Below wj.heap.size wj wr)) (fun u10 _ => F.length + 1 - (intOf u10).toNat)
              case atStart => exact ⟨1, by omega, by omega, rfl, hid (Below.refl _ _)⟩
              case round =>
                obtain ⟨m, hm1, hm2, rfl, HBM⟩ := hrel
                by_cases hlm : m < F.length
                · obtain ⟨b4, off4, ka4, kc4, va4, vc4, kb4, vb4, rfl, hb4, hx4, c4, _, t4, _⟩ := (HEF.out.new HBM.out).at m hlm
                  obtain ⟨b5, off5, ka5, kc5, va5, vc5, kb5, vb5, e5, hb5, hx5, c5, _, t5, _⟩ := (HEF.out.new HBM.out).at (m - 1) (by omega)
                  simp only [Option.some.injEq, Addr.mk.injEq, and_true] at e5
                  obtain ⟨rfl, rfl⟩ := e5
                  have hmi : (m : Int) < (F.length : Int) := by omega
                  have hm0 : (0 : Int) ≤ (m : Int) := by omega
                  obtain ⟨p, hp⟩ : ∃ p, m - 1 = p := ⟨_, rfl⟩
                  have hle : Op.bytesLess (str8 kb5).toList (str8 kb4).toList = true := by
                    rw [str8_toList, str8_toList]
                    exact rises_step HRS.out (k := m) (e := (kb4, vb4)) (f := (kb5, vb5)) (by omega) (ent_at HQF.out hx4) (ent_at HQF.out hx5)
                  have hlt4 : Op.bytesLess (str8 kb4).toList (str8 kb5).toList = false := less_asymm _ _ hle
                  have hne4 : ((str8 kb4).toList == (str8 kb5).toList) = false := by rw [beq_eq_false_iff_ne]; exact fun e => less_ne hle e.symm
                  clear hle
                  rw [hp] at c5
                  have hsub : IntKind.i64.wrap ((m : Int) - 1) = (p : Int) := by rw [IntKind.wrap_i64]; omega
                  have hpi : (p : Int) < (F.length : Int) := by omega
                  have hp0 : (0 : Int) ≤ (p : Int) := by omega
                  have e4 := fun nq => str4 (t4.below (below_drewN _ wr nq))
                  have e5 := fun nq => str4 (t5.below (below_drewN _ wr nq))
                  have HML := hid hlm
                  clear hx4 hx5 t4 t5 hp
                  generalize str8 kb4 = S4 at *
                  generalize str8 kb5 = S5 at *
                  go_wp2_with fail
                  go_quiet (fail)
                  have HBQ := hid (HBM.out.trans (below_drewN _ wr nq))
                  go_wp2_with fail
                  go_roundw
                  case rel => exact ⟨m + 1, by omega, by have := HML.out; omega, by go_num, HBQ⟩
                  case measure => have := HML.out; simp [intOf]; omega
                · have hmi : ¬ (m : Int) < (F.length : Int) := by omega
                  have HWM := hid (HWJ.out.trans (HBM.out.mono HWJ.out.size))
                  have hfp : F.length = P.flatten.length := by rw [hP, ← HQF.out, List.length_map]
                  have HCN := hid (HA.count (HTP.out wr HWM.out) (by omega))
                  rw [← hfp] at HCN
                  have hdd7 : dd ≤ 6 := depth_few (n := P.flatten.length) (by omega) HGD.out.few
                  have hd1 := HGD.out.pos
                  have hqp : Q.length = P.length := by rw [← HQP.out, List.length_map]
                  have hq1 : 1 ≤ Q.length := by have := HGD.out.some; omega
                  have hone : dd = 1 ↔ Q.length = 1 := by rw [hqp]; exact HGD.out.one
                  have hfew : 1 < dd → 2 ^ dd ≤ F.length := by rw [hfp]; exact HGD.out.few
                  have hmany : 1 < dd → F.length ≤ 4 ^ dd := by rw [hfp]; exact HGD.out.many
                  have HFM := hid (show F.map EntV.ent = L2 from HQF.out)
                  have HEF2 := hid (HEF.out.new HBM.out)
                  have hF81 : F.length ≤ 81 := hqf
                  clear HEF HBM hqp hfp HWJ
                  have hq1i : ¬ (Q.length : Int) < 1 := by omega
                  have hq1d : decide ((Q.length : Int) < 1) = false := by simpa using hq1i
                  have hnn : ((F.length : Int) != (F.length : Int)) = false := by simp
                  go_wp2_with fail
                  refine HCN.out.mono ?_
                  clear HCN
                  rintro e x1 ⟨rfl, hy1⟩
                  have HY1 := htr HWM hy1
                  have HEF3 := hid (HEF2.out.new hy1)
                  have HT1 : Hid (BL BT (fun i => w.heap.size ≤ i) x1 tb L2) := hid ⟨S, P, dd, HTP.out x1 HY1.out, hP, hSA⟩
                  have hzx := hy1.size
                  clear hy1 HEF2
                  have HRG := hid (all_of HA HT1.out (by omega))
                  go_wp2_with fail
                  refine HRG.out.mono ?_
                  clear HRG
                  rintro e x2 ⟨ra, rc, gs, rfl, q1, q2, q3, hy2⟩
                  have HSM := hid (same_rows (HEF3.out.new hy2) q1.ents (by rw [HFM.out, q2]))
                  have HT2 := hid (HA.newL HT1.out hy2)
                  have HY2 := hid (HB4.out.trans ((HY1.out.trans (hy2.mono HY1.out.size)).mono HB4.out.size))
                  clear q1 q2 q3 hy2 HEF3 HT1
                  go_wp2_with fail
                  refine HSM.out.mono ?_
                  clear HSM
                  rintro e x3 ⟨rfl, hy3⟩
                  have HT3 := hid (HA.newL HT2.out hy3)
                  have HY3 := htr HY2 hy3
                  clear hy3 HT2 HY2
                  rcases Nat.lt_or_ge 1 dd with hbig | hsm
                  · have hQ1 : ¬ Q.length = 1 := fun h => by have := hone.2 h; omega
                    have hQ1b : ((Q.length : Int) == 1) = false := by rw [beq_eq_false_iff_ne]; omega
                    have h2 := hfew hbig
                    have h4 := hmany hbig
                    have hcases : dd = 2 ∨ dd = 3 ∨ dd = 4 ∨ dd = 5 ∨ dd = 6 := by omega
                    clear hfew hmany hone hbig hQ1
                    rcases hcases with rfl | rfl | rfl | rfl | rfl
                    all_goals
                      simp only [Nat.reducePow] at h2 h4
                      go_wp2_with fail
                      go_roundw
                      case rel => exact ⟨k + 1, L2, by omega, by omega, by go_num, hl2, HT3, HY3⟩
                      case measure => simp [intOf]; omega
                  · have hd1' : dd = 1 := by omega
                    have hQ1 := hone.1 hd1'
                    have hQ1b : ((Q.length : Int) == 1) = true := by rw [beq_iff_eq]; omega
                    clear hfew hmany hone hQ1
                    subst hd1'
                    go_wp2_with fail
                    go_roundw
                    case rel => exact ⟨k + 1, L2, by omega, by omega, by go_num, hl2, HT3, HY3⟩
                    case measure => simp [intOf]; omega
    · have hend : Hid (Calls Try.prog 13 #[.pointer (some ⟨tb, 0, none⟩)] wr fun e w' => e = .returned (.int .i64 (L.length : Nat)) ∧ Below wr.heap.size wr w') := hid (HA.countB HR.out (by omega))
      have hnn : (0 : Int) ≤ (L.length : Int) := by omega
      by_cases hlt : k < xs.length
      · have hki : (k : Int) < (xs.length : Int) := by omega
        have hk80 : ¬ (k : Int) < 80 := by omega
        go_wp2_with fail
        refine hend.out.mono ?_
        clear hend
        rintro e x1 ⟨rfl, hy1⟩
        have HY1 := htr HB hy1
        go_wp2
        go_ret
        exact ⟨rfl, HY1.out⟩
      · have hki : ¬ (k : Int) < (xs.length : Int) := by omega
        go_wp2_with fail
        refine hend.out.mono ?_
        clear hend
        rintro e x1 ⟨rfl, hy1⟩
        have HY1 := htr HB hy1
        go_wp2
        go_ret
        exact ⟨rfl, HY1.out⟩
end Go.Proofs.Ytjfipejfejmlaaa
