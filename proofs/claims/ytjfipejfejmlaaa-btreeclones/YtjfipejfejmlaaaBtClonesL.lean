/- The walk of BtreeClones. -/
import Derived.Test.YtjfipejfejmlaaaBtRow
import Derived.Test.YtjfipejfejmlaaaBtSmall
namespace Go.Proofs.Ytjfipejfejmlaaa
open Go.RowKit Go.Shelf
set_option linter.unusedVariables false
set_option linter.unusedSimpArgs false
set_option maxRecDepth 20000

/-- What is kept while the other tree is acted on: a tree in blocks of C, a row in blocks from B to M; the other one's blocks are of A. -/
def FC (BT : (Nat → Prop) → World → Nat → List (List Ent) → Nat → Prop) (C A : Nat → Prop) (B M w0 tb : Nat) (L : List Ent) (sv : Value) (xs : List EntV) (W : World) : Prop :=
  BL BT C W tb L ∧ RowIn B M W sv xs ∧ (∀ i, W.heap.size ≤ i → A i) ∧ ∀ i, A i → w0 ≤ i

theorem FC.keep {BT : (Nat → Prop) → World → Nat → List (List Ent) → Nat → Prop} (HA : Api BT) {C A : Nat → Prop} {B M w0 tb : Nat} {L : List Ent} {sv : Value} {xs : List EntV} {W W' : World} (h : FC BT C A B M w0 tb L sv xs W) (hk : Spares A W W') (h1 : ∀ i, C i → ¬ A i) (h2 : ∀ i, B ≤ i → i < M → ¬ A i) : FC BT C A B M w0 tb L sv xs W' :=
  ⟨HA.keepL h.1 hk h1, h.2.1.keep hk h2, fun i hi => h.2.2.1 i (by have := hk.size; omega), h.2.2.2⟩

set_option maxHeartbeats 16000000 in
theorem clones_law {BT : (Nat → Prop) → World → Nat → List (List Ent) → Nat → Prop} (HA : Api BT) (v u z : Value) (xs ys zs : List ActB) (w : World) (h1 : ActsB w.heap.size w v xs) (h2 : ActsB w.heap.size w u ys) (h3 : ActsB w.heap.size w z zs) :
    Calls Try.prog 6 #[v, u, z] w fun e w' => e = .returned (.bool true) ∧ Below w.heap.size w w' := by
  obtain ⟨a1, c1', rfl, hc1, hc1', _⟩ := id h1
  obtain ⟨a2, c2', rfl, hc2, hc2', _⟩ := id h2
  obtain ⟨a3, c3', rfl, hc3, hc3', _⟩ := id h3
  unfold maxLen at hc1' hc2' hc3'
  have HX := hid h1
  have HY := hid h2
  have HZ := hid h3
  clear h1 h2 h3
  go_enter Try.func6, Try.ntmps6
  go_wp2_with fail
  refine (small_any HA w).mono ?_
  rintro e w1 ⟨rfl, hb1⟩
  have HB1 := hid hb1
  clear hb1
  have HM := hid (made_any HA _ xs w.heap.size w1 HB1.out.size (HX.out.below HB1.out))
  go_wp2_with fail
  refine HM.out.mono ?_
  clear HM
  rintro e w2 ⟨tb, L0, rfl, R2, hL0, hb2⟩
  have HR2 := hid (HA.ltL R2)
  have hz12 := hb2.size
  have HB2 := htr HB1 hb2
  clear R2 hb2
  have HCL := hid (HA.cloneB HR2.out (by omega))
  go_wp2_with fail
  refine HCL.out.mono ?_
  clear HCL
  rintro e w3 ⟨cb, rfl, R3, hb3⟩
  have HT3 := hid (HA.newL HR2.out hb3)
  have HC3 := hid (HA.ltL R3)
  have hz23 := hb3.size
  have HB3 := htr HB2 hb3
  clear R3 hb3 HR2
  have HRG := hid (all_of HA HT3.out (by omega))
  go_wp2_with fail
  refine HRG.out.mono ?_
  clear HRG
  rintro e w4 ⟨aw, cw, ws, rfl, q1, q2, q3, hb4⟩
  have hz34 := hb4.size
  have HW4 := hid (RowIn.of q1)
  have HWL := hid q2
  have HB4 := htr HB3 hb4
  have HC4 : Hid (BL BT (area w2.heap.size w3.heap.size w4.heap.size) w4 cb L0) := hid ((HA.newL HC3.out hb4).mono (fun i hi => ⟨hi.1, .inl hi.2⟩))
  have HO4 : Hid (FC BT (fun i => w1.heap.size ≤ i ∧ i < w2.heap.size) (area w2.heap.size w3.heap.size w4.heap.size) w3.heap.size w4.heap.size w.heap.size tb L0 (.slice aw ws.length cw) ws w4) := hid ⟨HA.newL HT3.out hb4, HW4.out, fun i hi => ⟨by omega, .inr hi⟩, fun i hi => by have := hi.1; have := HB2.out.size; omega⟩
  have HFK : Hid (∀ W W', Spares (area w2.heap.size w3.heap.size w4.heap.size) W W' → FC BT (fun i => w1.heap.size ≤ i ∧ i < w2.heap.size) (area w2.heap.size w3.heap.size w4.heap.size) w3.heap.size w4.heap.size w.heap.size tb L0 (.slice aw ws.length cw) ws W → FC BT (fun i => w1.heap.size ≤ i ∧ i < w2.heap.size) (area w2.heap.size w3.heap.size w4.heap.size) w3.heap.size w4.heap.size w.heap.size tb L0 (.slice aw ws.length cw) ws W') := hid (fun W W' hk h => h.keep HA hk (fun i hi e => by have := e.1; omega) (fun i hi hi2 e => by have := e.2; omega))
  have HWS := hid q3
  clear q1 q2 q3 hb4 HT3 HC3 HW4
  go_upto_block 0 with fail
  go_cut [11] from 30 to 64 (fun u11 wx => ∃ (L : List Ent), L.length ≤ 120 ∧ Hid (BL BT (area w2.heap.size w3.heap.size w4.heap.size) wx cb L) ∧ Hid (FC BT (fun i => w1.heap.size ≤ i ∧ i < w2.heap.size) (area w2.heap.size w3.heap.size w4.heap.size) w3.heap.size w4.heap.size w.heap.size tb L0 (.slice aw ws.length cw) ws wx) ∧ Hid (Below w.heap.size w wx))
  case first =>
    go_wp2_with fail
    go_loopw [11] (fun i wr => ∃ (k : Nat) (L : List Ent), k ≤ 40 ∧ k ≤ ys.length ∧ i = .int .i64 (k : Int) ∧ L.length ≤ 80 + k ∧ Hid (BL BT (area w2.heap.size w3.heap.size w4.heap.size) wr cb L) ∧ Hid (FC BT (fun i => w1.heap.size ≤ i ∧ i < w2.heap.size) (area w2.heap.size w3.heap.size w4.heap.size) w3.heap.size w4.heap.size w.heap.size tb L0 (.slice aw ws.length cw) ws wr) ∧ Hid (Below w.heap.size w wr)) (fun i _ => 40 - (intOf i).toNat)
    case atStart => exact ⟨0, L0, by omega, by omega, rfl, by omega, HC4, HO4, HB4⟩
    case round =>
      obtain ⟨k, L, hk, hkl, rfl, hL, HR, HO, HB⟩ := hrel
      have hszr := HB.out.size
      have hup := HO.out.2.2.1
      by_cases hlt : k < ys.length
      · have hki : (k : Int) < (ys.length : Int) := by omega
        by_cases h40 : k < 40
        · have hk40 : (k : Int) < 40 := by omega
          have hk0 : (0 : Int) ≤ (k : Int) := by omega
          obtain ⟨b, off, ⟨d, kv, vv, fv, tv, en, kb, vb, fb, tb'⟩, rfl, hbl, hx, hc, i0, s1, s2, _, _⟩ := (HY.out.below HB.out).at k hlt
          obtain ⟨ka, kc, rfl⟩ : ∃ a c, kv = .slice a kb.length c := s1.form
          obtain ⟨va, vc, rfl⟩ : ∃ a c, vv = .slice a vb.length c := s2.form
          obtain ⟨c0, c1, c2, _⟩ := hc wr (Below.refl _ _)
          simp only at c0 c1 c2 s1 s2
          by_cases hd0 : d = 0
          · subst hd0
            have hS0 : wr.drew.cell? ⟨b, off + k * 6 + 1, none⟩ = some (.slice ka kb.length kc) ∧ wr.drew.cell? ⟨b, off + k * 6 + 2, none⟩ = some (.slice va vb.length vc) := ⟨c1, c2⟩
            have hb0 : Below wr.heap.size wr wr.drew := below_drewN _ wr 1
            have HP := HA.putB _ _ kb vb (HA.newL HR.out hb0) (fun i hi => hup i (by have := hb0.size; omega)) (s1.says (hb0.mono (by omega)) (by have := hb0.size; omega)) (s2.says (hb0.mono (by omega)) (by have := hb0.size; omega)) ⟨s1.2, s2.2⟩ (by omega)
            have HFW := hid (putL_few L (kb, vb))
            generalize putL L (kb, vb) = L' at *
            generalize hitK L kb = r at *
            have HC0 : Hid (∀ W, Below w.heap.size wr W → W.cell? ⟨b, off + k * 6, none⟩ = some (.int .i64 0) ∧ W.cell? ⟨b, off + k * 6 + 1, none⟩ = some (.slice ka kb.length kc) ∧ W.cell? ⟨b, off + k * 6 + 2, none⟩ = some (.slice va vb.length vc)) := hid fun W hW => ⟨(hc W hW).1, (hc W hW).2.1, (hc W hW).2.2.1⟩
            clear s1 s2 hc hx hb0
            go_wp2_with fail
            go_region_held3 (fun w' => w'.cell? ⟨b, off + k * 6 + 1, none⟩ = some (.slice ka kb.length kc) ∧ w'.cell? ⟨b, off + k * 6 + 2, none⟩ = some (.slice va vb.length vc))
              (first | assumption)
              ((go_at_call 11; refine HP.mono ?_; clear HP; rintro e wn ⟨rfl, Rn, hsn⟩
                have hsp : Spares (area w2.heap.size w3.heap.size w4.heap.size) wr wn := (Spares.of_new (below_drewN _ wr 1)).andThen hsn (fun i hi => .inl hi)
                have hbn : Below w.heap.size wr wn := hsp.below HO.out.2.2.2 hszr
                have hcn := HC0.out wn hbn
                have hcn0 := hcn.1
                have hSn := hcn.2))
            have HRN := hid Rn
            have HBN := hid (HB.out.trans hbn)
            have HON := hid (HFK.out wr wn hsp HO.out)
            clear Rn hbn c0 c1 c2 hS0 HC0 hcn hSn hsn hsp
            go_wp2
            go_roundw
            case rel => exact ⟨k + 1, L', by omega, by omega, by go_num, by have := HFW.out; omega, HRN, HON, HBN⟩
            case measure => simp [intOf]; omega
          · have hd0' : (d == 0) = false := by simpa using hd0
            have HD := HA.deleteB _ kb HR.out hup (s1.says (Below.refl _ _) (by omega)) (by omega)
            have HFW := hid (delL_few L kb)
            generalize delL L kb = L' at *
            generalize hitK L kb = r at *
            clear s1 s2 hc hx
            go_wp2_with fail
            refine HD.mono ?_
            clear HD
            rintro e wn ⟨rfl, Rn, hsn⟩
            have HRN := hid Rn
            have HBN := hid (HB.out.trans (hsn.below HO.out.2.2.2 hszr))
            have HON := hid (HFK.out wr wn hsn HO.out)
            clear Rn hsn
            go_wp2_with fail
            go_roundw
            case rel => exact ⟨k + 1, L', by omega, by omega, by go_num, by have := HFW.out; omega, HRN, HON, HBN⟩
            case measure => simp [intOf]; omega
        · have hk40 : ¬ (k : Int) < 40 := by omega
          clear HFK
          go_wp2_with fail
          go_meet
          case rel => exact ⟨L, by omega, HR, HO, HB⟩
      · have hki : ¬ (k : Int) < (ys.length : Int) := by omega
        clear HFK
        go_wp2_with fail
        go_meet
        case rel => exact ⟨L, by omega, HR, HO, HB⟩
  case rest =>
    clear HC4 HO4 HB4 HFK
    obtain ⟨Lc, hLc, HC5, HO5, HB5⟩ := hcut
    generalize w4.heap.size = M4 at *
    have HT5 := hid HO5.out.1
    have HRG := hid (all_of HA HT5.out (by omega))
    have HWR := hid HO5.out.2.1
    have hz5 := HB5.out.size
    go_wp2_with fail
    refine HRG.out.mono ?_
    clear HRG
    rintro e w6 ⟨a6, c6, es, rfl, q1, q2, q3, hb6⟩
    have HSM := hid (same_rows q1.ents ((HWR.out.new hb6).row.ents) (by rw [q2, HWL.out]))
    have HB6 := hid hb6
    clear q1 q2 q3 hb6
    go_wp2_with fail
    refine HSM.out.mono ?_
    clear HSM
    rintro e w7 ⟨rfl, hb7⟩
    have hz67 := hb7.size
    have hz56 := HB6.out.size
    have HB57 := hid (HB6.out.trans (hb7.mono hz56))
    have HT7 := hid (HA.newL HT5.out HB57.out)
    have HC7 := hid (HA.newL HC5.out HB57.out)
    have HC7' : Hid (BL BT (fun i => w2.heap.size ≤ i ∧ i < w7.heap.size) w7 cb Lc) := hid ((HA.ltL HC7.out).mono (fun i hi => ⟨hi.1.1, hi.2⟩))
    have HB7 := hid (HB5.out.trans (HB57.out.mono HB5.out.size))
    have hbig : w2.heap.size ≤ w7.heap.size := by
      have h1 := HO5.out.2.2.1 w7.heap.size (by omega)
      exact h1.1
    clear hb7 HT5 HC5 HO5 HB5 HB6 HB57 HWR
    have HRG := hid (all_of HA HC7.out (by omega))
    go_wp2_with fail
    refine HRG.out.mono ?_
    clear HRG
    rintro e w8 ⟨an, cn, ns, rfl, q1, q2, q3, hb8⟩
    have hz78 := hb8.size
    have HNL := hid q2
    have HNN := hid q3
    have HB8 := htr HB7 hb8
    have HT8 : Hid (BL BT (area w1.heap.size w2.heap.size w8.heap.size) w8 tb L0) := hid ((HA.newL HT7.out hb8).mono (fun i hi => ⟨hi.1, .inl hi.2⟩))
    have HO8 : Hid (FC BT (fun i => w2.heap.size ≤ i ∧ i < w7.heap.size) (area w1.heap.size w2.heap.size w8.heap.size) w7.heap.size w8.heap.size w.heap.size cb Lc (.slice an ns.length cn) ns w8) := hid ⟨HA.newL HC7'.out hb8, RowIn.of q1, fun i hi => ⟨by omega, .inr hi⟩, fun i hi => by have := hi.1; have := HB1.out.size; omega⟩
    have HFK : Hid (∀ W W', Spares (area w1.heap.size w2.heap.size w8.heap.size) W W' → FC BT (fun i => w2.heap.size ≤ i ∧ i < w7.heap.size) (area w1.heap.size w2.heap.size w8.heap.size) w7.heap.size w8.heap.size w.heap.size cb Lc (.slice an ns.length cn) ns W → FC BT (fun i => w2.heap.size ≤ i ∧ i < w7.heap.size) (area w1.heap.size w2.heap.size w8.heap.size) w7.heap.size w8.heap.size w.heap.size cb Lc (.slice an ns.length cn) ns W') := hid (fun W W' hk h => h.keep HA hk (fun i hi e => by have := e.2; omega) (fun i hi hi2 e => by have := e.2; omega))
    clear q1 q2 q3 hb8 HT7 HC7 HC7' HB7
    go_upto_block 2 with fail
    go_cut [13] from 74 to 108 (fun u13 wx => ∃ (L : List Ent), L.length ≤ 120 ∧ Hid (BL BT (area w1.heap.size w2.heap.size w8.heap.size) wx tb L) ∧ Hid (FC BT (fun i => w2.heap.size ≤ i ∧ i < w7.heap.size) (area w1.heap.size w2.heap.size w8.heap.size) w7.heap.size w8.heap.size w.heap.size cb Lc (.slice an ns.length cn) ns wx) ∧ Hid (Below w.heap.size w wx))
    case first =>
      go_wp2_with fail
      go_loopw [13] (fun i wr => ∃ (k : Nat) (L : List Ent), k ≤ 40 ∧ k ≤ zs.length ∧ i = .int .i64 (k : Int) ∧ L.length ≤ 80 + k ∧ Hid (BL BT (area w1.heap.size w2.heap.size w8.heap.size) wr tb L) ∧ Hid (FC BT (fun i => w2.heap.size ≤ i ∧ i < w7.heap.size) (area w1.heap.size w2.heap.size w8.heap.size) w7.heap.size w8.heap.size w.heap.size cb Lc (.slice an ns.length cn) ns wr) ∧ Hid (Below w.heap.size w wr)) (fun i _ => 40 - (intOf i).toNat)
      case atStart => exact ⟨0, L0, by omega, by omega, rfl, by omega, HT8, HO8, HB8⟩
      case round =>
        obtain ⟨k, L, hk, hkl, rfl, hL, HR, HO, HB⟩ := hrel
        have hszr := HB.out.size
        have hup := HO.out.2.2.1
        by_cases hlt : k < zs.length
        · have hki : (k : Int) < (zs.length : Int) := by omega
          by_cases h40 : k < 40
          · have hk40 : (k : Int) < 40 := by omega
            have hk0 : (0 : Int) ≤ (k : Int) := by omega
            obtain ⟨b, off, ⟨d, kv, vv, fv, tv, en, kb, vb, fb, tb'⟩, rfl, hbl, hx, hc, i0, s1, s2, _, _⟩ := (HZ.out.below HB.out).at k hlt
            obtain ⟨ka, kc, rfl⟩ : ∃ a c, kv = .slice a kb.length c := s1.form
            obtain ⟨va, vc, rfl⟩ : ∃ a c, vv = .slice a vb.length c := s2.form
            obtain ⟨c0, c1, c2, _⟩ := hc wr (Below.refl _ _)
            simp only at c0 c1 c2 s1 s2
            by_cases hd0 : d = 0
            · subst hd0
              have hS0 : wr.drew.cell? ⟨b, off + k * 6 + 1, none⟩ = some (.slice ka kb.length kc) ∧ wr.drew.cell? ⟨b, off + k * 6 + 2, none⟩ = some (.slice va vb.length vc) := ⟨c1, c2⟩
              have hb0 : Below wr.heap.size wr wr.drew := below_drewN _ wr 1
              have HP := HA.putB _ _ kb vb (HA.newL HR.out hb0) (fun i hi => hup i (by have := hb0.size; omega)) (s1.says (hb0.mono (by omega)) (by have := hb0.size; omega)) (s2.says (hb0.mono (by omega)) (by have := hb0.size; omega)) ⟨s1.2, s2.2⟩ (by omega)
              have HFW := hid (putL_few L (kb, vb))
              generalize putL L (kb, vb) = L' at *
              generalize hitK L kb = r at *
              have HC0 : Hid (∀ W, Below w.heap.size wr W → W.cell? ⟨b, off + k * 6, none⟩ = some (.int .i64 0) ∧ W.cell? ⟨b, off + k * 6 + 1, none⟩ = some (.slice ka kb.length kc) ∧ W.cell? ⟨b, off + k * 6 + 2, none⟩ = some (.slice va vb.length vc)) := hid fun W hW => ⟨(hc W hW).1, (hc W hW).2.1, (hc W hW).2.2.1⟩
              clear s1 s2 hc hx hb0
              go_wp2_with fail
              go_region_held3 (fun w' => w'.cell? ⟨b, off + k * 6 + 1, none⟩ = some (.slice ka kb.length kc) ∧ w'.cell? ⟨b, off + k * 6 + 2, none⟩ = some (.slice va vb.length vc))
                (first | assumption)
                ((go_at_call 11; refine HP.mono ?_; clear HP; rintro e wn ⟨rfl, Rn, hsn⟩
                  have hsp : Spares (area w1.heap.size w2.heap.size w8.heap.size) wr wn := (Spares.of_new (below_drewN _ wr 1)).andThen hsn (fun i hi => .inl hi)
                  have hbn : Below w.heap.size wr wn := hsp.below HO.out.2.2.2 hszr
                  have hcn := HC0.out wn hbn
                  have hcn0 := hcn.1
                  have hSn := hcn.2))
              have HRN := hid Rn
              have HBN := hid (HB.out.trans hbn)
              have HON := hid (HFK.out wr wn hsp HO.out)
              clear Rn hbn c0 c1 c2 hS0 HC0 hcn hSn hsn hsp
              go_wp2
              go_roundw
              case rel => exact ⟨k + 1, L', by omega, by omega, by go_num, by have := HFW.out; omega, HRN, HON, HBN⟩
              case measure => simp [intOf]; omega
            · have hd0' : (d == 0) = false := by simpa using hd0
              have HD := HA.deleteB _ kb HR.out hup (s1.says (Below.refl _ _) (by omega)) (by omega)
              have HFW := hid (delL_few L kb)
              generalize delL L kb = L' at *
              generalize hitK L kb = r at *
              clear s1 s2 hc hx
              go_wp2_with fail
              refine HD.mono ?_
              clear HD
              rintro e wn ⟨rfl, Rn, hsn⟩
              have HRN := hid Rn
              have HBN := hid (HB.out.trans (hsn.below HO.out.2.2.2 hszr))
              have HON := hid (HFK.out wr wn hsn HO.out)
              clear Rn hsn
              go_wp2_with fail
              go_roundw
              case rel => exact ⟨k + 1, L', by omega, by omega, by go_num, by have := HFW.out; omega, HRN, HON, HBN⟩
              case measure => simp [intOf]; omega
          · have hk40 : ¬ (k : Int) < 40 := by omega
            clear HFK
            go_wp2_with fail
            go_meet
            case rel => exact ⟨L, by omega, HR, HO, HB⟩
        · have hki : ¬ (k : Int) < (zs.length : Int) := by omega
          clear HFK
          go_wp2_with fail
          go_meet
          case rel => exact ⟨L, by omega, HR, HO, HB⟩
    case rest =>
      clear HT8 HO8 HB8 HFK
      obtain ⟨L9, hL9, HT9, HO9, HB9⟩ := hcut
      have HC9 := hid HO9.out.1
      have HN9 := hid HO9.out.2.1
      have HRG := hid (all_of HA HC9.out (by omega))
      have hz9 := HB9.out.size
      go_wp2_with fail
      refine HRG.out.mono ?_
      clear HRG
      rintro e v1 ⟨a6, c6, es, rfl, q1, q2, q3, hb1⟩
      have HSM := hid (same_rows q1.ents ((HN9.out.new hb1).row.ents) (by rw [q2, HNL.out]))
      have HD1 := hid hb1
      clear q1 q2 q3 hb1
      go_wp2_with fail
      refine HSM.out.mono ?_
      clear HSM
      rintro e v2 ⟨rfl, hb2⟩
      have HD2 := htr HD1 hb2
      have HCN := hid (HA.countB (HA.newL HC9.out HD2.out) (by omega))
      clear hb2
      go_wp2_with fail
      refine HCN.out.mono ?_
      clear HCN
      rintro e v3 ⟨rfl, hb3⟩
      have HEND := hid (HB9.out.trans ((HD2.out.trans (hb3.mono HD2.out.size)).mono HB9.out.size))
      have hnn : ((Lc.length : Int) == (ns.length : Int)) = true := by have := HNN.out; rw [beq_iff_eq]; omega
      clear hb3
      go_wp2
      go_ret
      exact ⟨by simp, HEND.out⟩
end Go.Proofs.Ytjfipejfejmlaaa
