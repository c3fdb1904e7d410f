/- The walk of RegistryCopies: a copy and the other one do not hear each other. -/
import Derived.Test.YtnhgjjpjmfjmjaaCopyF
import Derived.Test.YtnhgjjpjmfjmjaaActs
import Derived.Deep.CutBlock
namespace Go.Proofs.Ytnhgjjpjmfjmjaa
open Go.RowKit Go.Maps
set_option linter.unusedVariables false

/-- TWO REGISTRIES THAT SHARE NO BLOCK, all from block B on. -/
def Two (B : Nat) (w : World) (v u : Value) (L M : List Pr) : Prop :=
  ∃ S T, Reg w v L S ∧ Reg w u M T ∧ (∀ i, S i → B ≤ i) ∧ (∀ i, T i → B ≤ i) ∧ ∀ i, S i → ¬ T i

theorem Two.symm {B : Nat} {w : World} {v u : Value} {L M : List Pr} (h : Two B w v u L M) : Two B w u v M L := by
  obtain ⟨S, T, h1, h2, h3, h4, h5⟩ := h
  exact ⟨T, S, h2, h1, h4, h3, fun i hi hs => h5 i hs hi⟩

theorem Two.new {B : Nat} {w w' : World} {v u : Value} {L M : List Pr} (h : Two B w v u L M) (hb : Below w.heap.size w w') : Two B w' v u L M := by
  obtain ⟨S, T, h1, h2, h3, h4, h5⟩ := h
  exact ⟨S, T, h1.new hb, h2.new hb, h3, h4, h5⟩

theorem count_T (B : Nat) (v u : Value) (L M : List Pr) (w : World) (hR : Two B w v u L M) :
    Calls Try.prog 24 #[v] w fun e w' => e = .returned (.int .i64 (L.length : Int)) ∧ w' = w := by
  obtain ⟨S, T, h1, _⟩ := hR
  exact count_any v L S w h1

theorem knows_T (B : Nat) (v u vt : Value) (who : Int) (t : List UInt8) (L M : List Pr) (w : World) (hR : Two B w v u L M) (hw : I64 who) (hsh : Shows w.heap.size w vt t) :
    Calls Try.prog 13 #[v, .int .i64 who, vt] w fun e w' => e = .returned (.bool (decide ((who, t) ∈ L))) ∧ Two B w' v u L M ∧ Below w.heap.size w w' := by
  obtain ⟨S, T, h1, _⟩ := id hR
  refine (knows_any v vt who t L S w h1 hw hsh).mono ?_
  rintro e w' ⟨rfl, hb⟩
  exact ⟨rfl, hR.new hb, hb⟩

theorem sign_T (B : Nat) (v u vt : Value) (who : Int) (t : List UInt8) (L M : List Pr) (w : World) (hB : B ≤ w.heap.size) (hR : Two B w v u L M) (hw : I64 who) (hsh : Shows w.heap.size w vt t) (hL : L.length ≤ 100000) :
    Calls Try.prog 11 #[v, .int .i64 who, vt] w fun e w' => e = .returned (.int .i64 (signE who t)) ∧ Two B w' v u (signL L who t) M ∧ Below B w w' := by
  obtain ⟨S, T, h1, h2, h3, h4, h5⟩ := hR
  refine (sign_any v vt who t L S w h1 hw hsh hL).mono ?_
  rintro e w' ⟨rfl, hR2, hk⟩
  refine ⟨rfl, ⟨_, T, hR2, h2.keeps hk (fun i hi hs => h5 i hs hi), fun i hi => ?_, h4, fun i hi ht => ?_⟩, hk.below h3 hB⟩
  · rcases hi with hi | hi
    · exact h3 i hi
    · exact Nat.le_trans hB hi.1
  · rcases hi with hi | hi
    · exact h5 i hi ht
    · have := h2.lt i ht
      omega

theorem copy_T (B : Nat) (v : Value) (L : List Pr) (w : World) (hB : B ≤ w.heap.size) (hR : RegB B w v L) (hL : L.length ≤ 100000) :
    Calls Try.prog 19 #[v] w fun e w' => ∃ cb, e = .returned (.pointer (some ⟨cb, 0, none⟩)) ∧ Two B w' v (.pointer (some ⟨cb, 0, none⟩)) L L ∧ Below w.heap.size w w' := by
  obtain ⟨S, h1, h3⟩ := hR
  refine (copy_any v L S w h1 hL).mono ?_
  rintro e w' ⟨v', rfl, hR2, hb⟩
  obtain ⟨cb, rfl⟩ := hR2.ptr
  exact ⟨cb, rfl, ⟨S, _, h1.new hb, hR2, h3, fun i hi => Nat.le_trans hB hi.1, fun i hi ht => by have := h1.lt i hi; omega⟩, hb⟩

theorem list_beqP (a b : List UInt8) : (a == b) = decide (a = b) := by
  by_cases h : a = b
  · rw [decide_eq_true h, h]; simp
  · rw [decide_eq_false h]; simpa using h

theorem str_beqP (a b : List UInt8) : ((str8 a).toList == (str8 b).toList) = decide (a = b) := by
  rw [ByteArray.toList_eq, ByteArray.toList_eq]
  exact list_beqP a b

theorem signE_cases (who : Int) (t : List UInt8) : signE who t = 1 ∨ signE who t = 0 ∨ signE who t = 2 := by
  unfold signE
  split
  · exact .inl rfl
  · split
    · exact .inr (.inr rfl)
    · exact .inr (.inl rfl)

theorem signE_one (who : Int) (t o : List UInt8) (h : signE who t = 1) : signE who o = 1 := by
  unfold signE at h ⊢
  split at h
  · rename_i h1
    rw [if_pos h1]
  · split at h <;> simp at h

theorem signE_not (who : Int) (t o : List UInt8) (h : signE who t ≠ 1) : signE who o ≠ 1 := fun e => h (signE_one who o t e)

set_option maxRecDepth 20000 in
set_option maxHeartbeats 2000000 in
theorem copies_law (v : Value) (xs : List ActV) (who : Int) (vt : Value) (t : List UInt8) (vo : Value) (o : List UInt8) (w : World) (hA : Acts w.heap.size w v xs) (hw : I64 who) (hsh : Shows w.heap.size w vt t) (hso : Shows w.heap.size w vo o) :
    Calls Try.prog 6 #[v, .int .i64 who, vt, vo] w fun e w' => e = .returned (.bool true) ∧ Below w.heap.size w w' := by
  have hA0 := hA
  obtain ⟨a, c, rfl, h1, h2, h3⟩ := hA
  have hmax : c ≤ 9223372036854775807 := by unfold maxLen at h2; omega
  clear h3
  have HA0 := hid hA0
  have HT := hid hsh
  have HO := hid hso
  clear hA0 hsh hso
  go_enter Try.func6, Try.ntmps6
  go_wp2_with fail
  refine (small_any w).mono ?_
  rintro e w1 ⟨rfl, hb1⟩
  go_wp2_with fail
  refine (new_B w1).mono ?_
  rintro e w2 ⟨sb, rfl, R2, hb2⟩
  have R2' : RegB w.heap.size w2 (.pointer (some ⟨sb, 0, none⟩)) [] := by obtain ⟨S, hR, hS⟩ := R2; exact ⟨S, hR, fun i hi => Nat.le_trans hb1.size (hS i hi)⟩
  have b2 : Below w.heap.size w w2 := hb1.trans (hb2.mono hb1.size)
  clear R2 hb2 hb1
  go_upto_block 0 with fail
  go_cut [11] from 25 (fun u11 wx => ∃ L : List Pr, L.length ≤ 60 ∧ RegB w.heap.size wx (.pointer (some ⟨sb, 0, none⟩)) L ∧ Below w.heap.size w wx)
  case first =>
    go_wp2_with fail
    go_loopw [11] (fun i wr => ∃ (k : Nat) (L : List Pr), k ≤ 60 ∧ k ≤ xs.length ∧ i = .int .i64 (k : Int) ∧ L.length ≤ k ∧ RegB w.heap.size wr (.pointer (some ⟨sb, 0, none⟩)) L ∧ Below w.heap.size w wr) (fun i _ => 60 - (intOf i).toNat)
    case atStart => exact ⟨0, [], by omega, by omega, rfl, by simp, R2', b2⟩
    case round =>
      obtain ⟨k, L, hk, hkl, rfl, hL, R, hb⟩ := hrel
      have hszr := hb.size
      clear R2' b2
      by_cases hgo : k < xs.length ∧ k < 60
      · obtain ⟨b, off, x, va, vc, rfl, hbl, hx, hvb, c0, c1, c2, c3, i0, i1, i2, shb, _⟩ := (HA0.out.below hb).at k hgo.1
        have hki : (k : Int) < (xs.length : Int) := by omega
        have hk0 : (0 : Int) ≤ (k : Int) := by omega
        have hk60 : (k : Int) < 60 := by omega
        obtain ⟨d, who', vb, bs, n⟩ := x
        simp only at hvb c0 c1 c2 c3 i0 i1 i2 shb
        clear hvb hx
        by_cases hd : d = 0
        · subst hd
          obtain ⟨S, hR, hS⟩ := R
          have hlen := signL_le L who' bs
          have hsg : ∀ w', wr.grownBy w' none → Calls Try.prog 11 #[.pointer (some ⟨sb, 0, none⟩), .int .i64 who', .slice va bs.length vc] w' fun e w3 => e = .returned (.int .i64 (signE who' bs)) ∧
              (w3.cell? ⟨b, off + k * 4 + 1, none⟩ = some (.int .i64 who') ∧ w3.cell? ⟨b, off + k * 4 + 2, none⟩ = some (.slice va bs.length vc)) ∧ Hid (RegB w.heap.size w3 (.pointer (some ⟨sb, 0, none⟩)) (signL L who' bs) ∧ Below w.heap.size w w3) := fun w' hg => by
            have hbn : Below wr.heap.size wr w' := (Below.refl _ wr).grown hg (Nat.le_refl _) (fun k e => by cases e)
            have hszn := hbn.size
            refine (sign_any _ _ who' bs L S _ (hR.new hbn) i1 ((shb.below (hbn.mono hszr)).mono (Nat.le_trans hszr hszn)) (by omega)).mono ?_
            rintro e w3 ⟨rfl, R3, k3⟩
            have hb3 : Below w.heap.size wr w3 := (hbn.mono hszr).trans (k3.below hS (Nat.le_trans hszr hszn))
            refine ⟨rfl, ⟨by rw [hb3.cell (p := ⟨b, off + k * 4 + 1, none⟩) hbl]; exact c1, by rw [hb3.cell (p := ⟨b, off + k * 4 + 2, none⟩) hbl]; exact c2⟩, ⟨⟨_, R3, fun i hi => ?_⟩, hb.trans hb3⟩⟩
            rcases hi with hi | hi
            · exact hS i hi
            · exact Nat.le_trans (Nat.le_trans hszr hszn) hi.1
          have HSG := hid hsg
          have HC := hid (show wr.cell? ⟨b, off + k * 4 + 1, none⟩ = some (.int .i64 who') ∧ wr.cell? ⟨b, off + k * 4 + 2, none⟩ = some (.slice va bs.length vc) from ⟨c1, c2⟩)
          clear hsg hR shb
          generalize signL L who' bs = L' at *
          generalize signE who' bs = E at *
          go_wp2_with fail
          go_region_held3 (fun w' => w'.cell? ⟨b, off + k * 4 + 1, none⟩ = some (.int .i64 who') ∧ w'.cell? ⟨b, off + k * 4 + 2, none⟩ = some (.slice va bs.length vc))
            (first | exact HC.out | assumption)
            ((go_at_call 11; refine (HSG.out _ (grown_drew wr)).mono ?_; rintro e w3 ⟨rfl, hS3, HF3⟩))
          obtain ⟨R3, b3⟩ := HF3.out
          go_wp2
          go_roundw
          case rel => exact ⟨k + 1, L', by omega, by omega, by go_num, by omega, R3, b3⟩
          case measure => simp [intOf]; omega
        · have hdf : decide (d = 0) = false := decide_eq_false hd
          clear shb i0 i1 i2
          go_wp2_with fail
          go_roundw
          case rel => exact ⟨k + 1, L, by omega, by omega, by go_num, by omega, R, hb⟩
          case measure => simp [intOf]; omega
      · by_cases hk1 : k < xs.length
        · have hki : (k : Int) < (xs.length : Int) := by omega
          have hk60 : ¬ (k : Int) < 60 := by omega
          go_wp2_with fail
          go_meet
          case rel => exact ⟨L, by omega, R, hb⟩
        · have hki : ¬ (k : Int) < (xs.length : Int) := by omega
          go_wp2_with fail
          go_meet
          case rel => exact ⟨L, by omega, R, hb⟩
  case rest =>
    clear R2' b2 HA0
    obtain ⟨L, hL, R, hb⟩ := hcut
    have HCP := hid (copy_T w.heap.size _ L _ hb.size R (by omega))
    clear R
    go_wp2_with fail
    refine HCP.out.mono ?_
    rintro e w3 ⟨cb, rfl, T3, b3⟩
    have B3 := hid (hb.trans (b3.mono hb.size))
    clear b3 HCP hb
    go_wp2_with fail
    refine (count_T w.heap.size _ _ _ _ _ T3.symm).mono ?_
    rintro e w' ⟨rfl, e'⟩
    rw [e']
    clear e' w'
    go_wp2_with fail
    refine (count_T w.heap.size _ _ _ _ _ T3).mono ?_
    rintro e w' ⟨rfl, e'⟩
    rw [e']
    clear e' w'
    go_wp2_with fail
    refine (knows_T w.heap.size _ _ _ who t L L _ T3 hw ((HT.out.below B3.out).mono B3.out.size)).mono ?_
    rintro e w4 ⟨rfl, T4, b4⟩
    have B4 := hid (B3.out.trans (b4.mono B3.out.size))
    clear b4 T3 B3
    go_wp2_with fail
    refine (knows_T w.heap.size _ _ _ who o L L _ T4 hw ((HO.out.below B4.out).mono B4.out.size)).mono ?_
    rintro e w5 ⟨rfl, T5, b5⟩
    have B5 := hid (B4.out.trans (b5.mono B4.out.size))
    clear b5 T4 B4
    go_wp2_with fail
    refine (sign_T w.heap.size _ _ _ who t L L _ B5.out.size T5.symm hw ((HT.out.below B5.out).mono B5.out.size) (by omega)).mono ?_
    rintro e w6 ⟨rfl, T6, b6⟩
    have B6 := hid (B5.out.trans b6)
    clear b6 T5 B5
    have HM1 := hid (mem_signL L who who t t)
    have HM2 := hid (mem_signL L who who o t)
    have HN := hid (mem_signL L who who o o)
    have HK1 := hid (rfl : decide ((who, t) ∈ L) = decide ((who, t) ∈ L))
    generalize hq2 : decide ((who, o) ∈ L) = q2 at HM2 HN ⊢
    generalize hq1 : decide ((who, t) ∈ L) = q1 at HM1 ⊢
    have HQ1 := hid hq1
    clear hq1 hq2 HK1
    generalize signL L who t = M at *
    rcases signE_cases who t with hE | hE | hE
    · have hF := signE_one who t o hE
      rw [hE]
      go_wp2_with fail
      refine (knows_T w.heap.size _ _ _ who t L M _ T6.symm hw ((HT.out.below B6.out).mono B6.out.size)).mono ?_
      rintro e w7 ⟨rfl, T7, b7⟩
      have B7 := hid (B6.out.trans (b7.mono B6.out.size))
      clear b7
      rw [HQ1.out]
      go_wp2_with fail
      refine (sign_T w.heap.size _ _ _ who o L M _ B7.out.size T7 hw ((HO.out.below B7.out).mono B7.out.size) (by omega)).mono ?_
      rintro e w8 ⟨rfl, T8, b8⟩
      have B8 := hid (B7.out.trans b8)
      clear b8
      generalize hN : signL L who o = N at *
      rw [hF]
      go_wp2
      go_ret
      exact ⟨by simp, B8.out⟩
    · have hF0 := signE_not who t o (by rw [hE]; decide)
      rw [hE] at HM1 HM2 ⊢
      go_wp2_with fail
      refine (knows_T w.heap.size _ _ _ who t L M _ T6.symm hw ((HT.out.below B6.out).mono B6.out.size)).mono ?_
      rintro e w7 ⟨rfl, T7, b7⟩
      have B7 := hid (B6.out.trans (b7.mono B6.out.size))
      clear b7
      rw [HQ1.out]
      go_wp2_with fail
      refine (knows_T w.heap.size _ _ _ who t M L _ T7.symm hw ((HT.out.below B7.out).mono B7.out.size)).mono ?_
      rintro e w7' ⟨rfl, T7', b7'⟩
      have B7' := hid (B7.out.trans (b7'.mono B7.out.size))
      clear b7'
      rw [show decide ((who, t) ∈ M) = true by rw [HM1.out]; simp]
      go_wp2_with fail
      refine (sign_T w.heap.size _ _ _ who o L M _ B7'.out.size T7'.symm hw ((HO.out.below B7'.out).mono B7'.out.size) (by omega)).mono ?_
      rintro e w8 ⟨rfl, T8, b8⟩
      have B8 := hid (B7'.out.trans b8)
      clear b8
      generalize hN : signL L who o = N at *
      rcases signE_cases who o with hF | hF | hF
      · exact absurd hF hF0
      · rw [hF] at HN ⊢
        cases q2
        · cases hqc : decide (t = o)
          · have HQC := hid hqc
            clear hqc
            go_wp2_with fail
            refine (knows_T w.heap.size _ _ _ who o M N _ T8.symm hw ((HO.out.below B8.out).mono B8.out.size)).mono ?_
            rintro e w9 ⟨rfl, T9, b9⟩
            have B9 := hid (B8.out.trans (b9.mono B8.out.size))
            clear b9
            rw [show decide ((who, o) ∈ M) = false by rw [HM2.out]; simp [HQC.out]]
            have e1 := strR (HT.out.below B9.out)
            have e2 := strR (HO.out.below B9.out)
            have hcmp : ((str8 t).toList == (str8 o).toList) = false := by rw [str_beqP, HQC.out]
            generalize str8 t = st at *
            generalize str8 o = so at *
            go_wp2_with fail
            refine (knows_T w.heap.size _ _ _ who o N M _ T9.symm hw ((HO.out.below B9.out).mono B9.out.size)).mono ?_
            rintro e w10 ⟨rfl, T10, b10⟩
            have B10 := hid (B9.out.trans (b10.mono B9.out.size))
            clear b10
            rw [show decide ((who, o) ∈ N) = true by rw [HN.out]; simp]
            go_wp2
            go_ret
            exact ⟨by simp, B10.out⟩
          · have HQC := hid hqc
            clear hqc
            go_wp2_with fail
            refine (knows_T w.heap.size _ _ _ who o M N _ T8.symm hw ((HO.out.below B8.out).mono B8.out.size)).mono ?_
            rintro e w9 ⟨rfl, T9, b9⟩
            have B9 := hid (B8.out.trans (b9.mono B8.out.size))
            clear b9
            rw [show decide ((who, o) ∈ M) = true by rw [HM2.out]; simp [HQC.out]]
            have e1 := strR (HT.out.below B9.out)
            have e2 := strR (HO.out.below B9.out)
            have hcmp : ((str8 t).toList == (str8 o).toList) = true := by rw [str_beqP, HQC.out]
            generalize str8 t = st at *
            generalize str8 o = so at *
            go_wp2_with fail
            refine (knows_T w.heap.size _ _ _ who o N M _ T9.symm hw ((HO.out.below B9.out).mono B9.out.size)).mono ?_
            rintro e w10 ⟨rfl, T10, b10⟩
            have B10 := hid (B9.out.trans (b10.mono B9.out.size))
            clear b10
            rw [show decide ((who, o) ∈ N) = true by rw [HN.out]; simp]
            go_wp2
            go_ret
            exact ⟨by simp, B10.out⟩
        · go_wp2_with fail
          refine (knows_T w.heap.size _ _ _ who o M N _ T8.symm hw ((HO.out.below B8.out).mono B8.out.size)).mono ?_
          rintro e w9 ⟨rfl, T9, b9⟩
          have B9 := hid (B8.out.trans (b9.mono B8.out.size))
          clear b9
          rw [show decide ((who, o) ∈ M) = true by rw [HM2.out]; simp]
          go_wp2_with fail
          refine (knows_T w.heap.size _ _ _ who o N M _ T9.symm hw ((HO.out.below B9.out).mono B9.out.size)).mono ?_
          rintro e w10 ⟨rfl, T10, b10⟩
          have B10 := hid (B9.out.trans (b10.mono B9.out.size))
          clear b10
          rw [show decide ((who, o) ∈ N) = true by rw [HN.out]; simp]
          go_wp2
          go_ret
          exact ⟨by simp, B10.out⟩
      · rw [hF] at HN ⊢
        cases q2
        · cases hqc : decide (t = o)
          · have HQC := hid hqc
            clear hqc
            go_wp2_with fail
            refine (knows_T w.heap.size _ _ _ who o M N _ T8.symm hw ((HO.out.below B8.out).mono B8.out.size)).mono ?_
            rintro e w9 ⟨rfl, T9, b9⟩
            have B9 := hid (B8.out.trans (b9.mono B8.out.size))
            clear b9
            rw [show decide ((who, o) ∈ M) = false by rw [HM2.out]; simp [HQC.out]]
            have e1 := strR (HT.out.below B9.out)
            have e2 := strR (HO.out.below B9.out)
            have hcmp : ((str8 t).toList == (str8 o).toList) = false := by rw [str_beqP, HQC.out]
            generalize str8 t = st at *
            generalize str8 o = so at *
            go_wp2
            go_ret
            exact ⟨by simp, B9.out⟩
          · have HQC := hid hqc
            clear hqc
            go_wp2_with fail
            refine (knows_T w.heap.size _ _ _ who o M N _ T8.symm hw ((HO.out.below B8.out).mono B8.out.size)).mono ?_
            rintro e w9 ⟨rfl, T9, b9⟩
            have B9 := hid (B8.out.trans (b9.mono B8.out.size))
            clear b9
            rw [show decide ((who, o) ∈ M) = true by rw [HM2.out]; simp [HQC.out]]
            have e1 := strR (HT.out.below B9.out)
            have e2 := strR (HO.out.below B9.out)
            have hcmp : ((str8 t).toList == (str8 o).toList) = true := by rw [str_beqP, HQC.out]
            generalize str8 t = st at *
            generalize str8 o = so at *
            go_wp2
            go_ret
            exact ⟨by simp, B9.out⟩
        · go_wp2_with fail
          refine (knows_T w.heap.size _ _ _ who o M N _ T8.symm hw ((HO.out.below B8.out).mono B8.out.size)).mono ?_
          rintro e w9 ⟨rfl, T9, b9⟩
          have B9 := hid (B8.out.trans (b9.mono B8.out.size))
          clear b9
          rw [show decide ((who, o) ∈ M) = true by rw [HM2.out]; simp]
          go_wp2
          go_ret
          exact ⟨by simp, B9.out⟩
    · have hF0 := signE_not who t o (by rw [hE]; decide)
      rw [hE] at HM1 HM2 ⊢
      go_wp2_with fail
      refine (knows_T w.heap.size _ _ _ who t L M _ T6.symm hw ((HT.out.below B6.out).mono B6.out.size)).mono ?_
      rintro e w7 ⟨rfl, T7, b7⟩
      have B7 := hid (B6.out.trans (b7.mono B6.out.size))
      clear b7
      rw [HQ1.out]
      go_wp2_with fail
      refine (sign_T w.heap.size _ _ _ who o L M _ B7.out.size T7 hw ((HO.out.below B7.out).mono B7.out.size) (by omega)).mono ?_
      rintro e w8 ⟨rfl, T8, b8⟩
      have B8 := hid (B7.out.trans b8)
      clear b8
      generalize hN : signL L who o = N at *
      rcases signE_cases who o with hF | hF | hF
      · exact absurd hF hF0
      · rw [hF] at HN ⊢
        cases q2
        · cases hqc : decide (t = o)
          · have HQC := hid hqc
            clear hqc
            go_wp2_with fail
            refine (knows_T w.heap.size _ _ _ who o M N _ T8.symm hw ((HO.out.below B8.out).mono B8.out.size)).mono ?_
            rintro e w9 ⟨rfl, T9, b9⟩
            have B9 := hid (B8.out.trans (b9.mono B8.out.size))
            clear b9
            rw [show decide ((who, o) ∈ M) = false by rw [HM2.out]; simp]
            have e1 := strR (HT.out.below B9.out)
            have e2 := strR (HO.out.below B9.out)
            have hcmp : ((str8 t).toList == (str8 o).toList) = false := by rw [str_beqP, HQC.out]
            generalize str8 t = st at *
            generalize str8 o = so at *
            go_wp2_with fail
            refine (knows_T w.heap.size _ _ _ who o N M _ T9.symm hw ((HO.out.below B9.out).mono B9.out.size)).mono ?_
            rintro e w10 ⟨rfl, T10, b10⟩
            have B10 := hid (B9.out.trans (b10.mono B9.out.size))
            clear b10
            rw [show decide ((who, o) ∈ N) = true by rw [HN.out]; simp]
            go_wp2
            go_ret
            exact ⟨by simp, B10.out⟩
          · have HQC := hid hqc
            clear hqc
            go_wp2_with fail
            refine (knows_T w.heap.size _ _ _ who o M N _ T8.symm hw ((HO.out.below B8.out).mono B8.out.size)).mono ?_
            rintro e w9 ⟨rfl, T9, b9⟩
            have B9 := hid (B8.out.trans (b9.mono B8.out.size))
            clear b9
            rw [show decide ((who, o) ∈ M) = false by rw [HM2.out]; simp]
            have e1 := strR (HT.out.below B9.out)
            have e2 := strR (HO.out.below B9.out)
            have hcmp : ((str8 t).toList == (str8 o).toList) = true := by rw [str_beqP, HQC.out]
            generalize str8 t = st at *
            generalize str8 o = so at *
            go_wp2_with fail
            refine (knows_T w.heap.size _ _ _ who o N M _ T9.symm hw ((HO.out.below B9.out).mono B9.out.size)).mono ?_
            rintro e w10 ⟨rfl, T10, b10⟩
            have B10 := hid (B9.out.trans (b10.mono B9.out.size))
            clear b10
            rw [show decide ((who, o) ∈ N) = true by rw [HN.out]; simp]
            go_wp2
            go_ret
            exact ⟨by simp, B10.out⟩
        · go_wp2_with fail
          refine (knows_T w.heap.size _ _ _ who o M N _ T8.symm hw ((HO.out.below B8.out).mono B8.out.size)).mono ?_
          rintro e w9 ⟨rfl, T9, b9⟩
          have B9 := hid (B8.out.trans (b9.mono B8.out.size))
          clear b9
          rw [show decide ((who, o) ∈ M) = true by rw [HM2.out]; simp]
          go_wp2_with fail
          refine (knows_T w.heap.size _ _ _ who o N M _ T9.symm hw ((HO.out.below B9.out).mono B9.out.size)).mono ?_
          rintro e w10 ⟨rfl, T10, b10⟩
          have B10 := hid (B9.out.trans (b10.mono B9.out.size))
          clear b10
          rw [show decide ((who, o) ∈ N) = true by rw [HN.out]; simp]
          go_wp2
          go_ret
          exact ⟨by simp, B10.out⟩
      · rw [hF] at HN ⊢
        cases q2
        · cases hqc : decide (t = o)
          · have HQC := hid hqc
            clear hqc
            go_wp2_with fail
            refine (knows_T w.heap.size _ _ _ who o M N _ T8.symm hw ((HO.out.below B8.out).mono B8.out.size)).mono ?_
            rintro e w9 ⟨rfl, T9, b9⟩
            have B9 := hid (B8.out.trans (b9.mono B8.out.size))
            clear b9
            rw [show decide ((who, o) ∈ M) = false by rw [HM2.out]; simp]
            have e1 := strR (HT.out.below B9.out)
            have e2 := strR (HO.out.below B9.out)
            have hcmp : ((str8 t).toList == (str8 o).toList) = false := by rw [str_beqP, HQC.out]
            generalize str8 t = st at *
            generalize str8 o = so at *
            go_wp2
            go_ret
            exact ⟨by simp, B9.out⟩
          · have HQC := hid hqc
            clear hqc
            go_wp2_with fail
            refine (knows_T w.heap.size _ _ _ who o M N _ T8.symm hw ((HO.out.below B8.out).mono B8.out.size)).mono ?_
            rintro e w9 ⟨rfl, T9, b9⟩
            have B9 := hid (B8.out.trans (b9.mono B8.out.size))
            clear b9
            rw [show decide ((who, o) ∈ M) = false by rw [HM2.out]; simp]
            have e1 := strR (HT.out.below B9.out)
            have e2 := strR (HO.out.below B9.out)
            have hcmp : ((str8 t).toList == (str8 o).toList) = true := by rw [str_beqP, HQC.out]
            generalize str8 t = st at *
            generalize str8 o = so at *
            go_wp2
            go_ret
            exact ⟨by simp, B9.out⟩
        · go_wp2_with fail
          refine (knows_T w.heap.size _ _ _ who o M N _ T8.symm hw ((HO.out.below B8.out).mono B8.out.size)).mono ?_
          rintro e w9 ⟨rfl, T9, b9⟩
          have B9 := hid (B8.out.trans (b9.mono B8.out.size))
          clear b9
          rw [show decide ((who, o) ∈ M) = true by rw [HM2.out]; simp]
          go_wp2
          go_ret
          exact ⟨by simp, B9.out⟩
end Go.Proofs.Ytnhgjjpjmfjmjaa
