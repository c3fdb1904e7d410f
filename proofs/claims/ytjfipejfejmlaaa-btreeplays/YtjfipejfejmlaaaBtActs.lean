/- Stage 14's acts, as they lie in memory; contract of the law's 'made'. -/
import Derived.Test.YtjfipejfejmlaaaBtApi
namespace Go.Proofs.Ytjfipejfejmlaaa
open Go.RowKit Go.Shelf
set_option linter.unusedVariables false
set_option linter.unusedSimpArgs false
set_option maxRecDepth 20000

/-- One act: Do, K, V, S (values, and what they show). -/
structure ActB where
  d : Int
  kv : Value
  vv : Value
  fv : Value
  tv : Value
  en : Bool
  k : List UInt8
  v : List UInt8
  f : List UInt8
  t : List UInt8

/-- Bytes of a slice that was handed in. -/
def Lent8 (B : Nat) (w : World) (v : Value) (bs : List UInt8) : Prop := Shows B w v bs ∧ bs.length ≤ 140737488351232

/-- v IS A SLICE OF THE ACTS xs, below block B. -/
def ActsB (B : Nat) (w : World) (v : Value) (xs : List ActB) : Prop :=
  ∃ a c, v = .slice a xs.length c ∧ xs.length ≤ c ∧ c ≤ maxLen ∧ (xs ≠ [] → ∃ b off, a = some ⟨b, off, none⟩ ∧ b < B ∧ ∀ j x, xs[j]? = some x →
    w.cell? ⟨b, off + j * 6, none⟩ = some (.int .i64 x.d) ∧ w.cell? ⟨b, off + j * 6 + 1, none⟩ = some x.kv ∧ w.cell? ⟨b, off + j * 6 + 2, none⟩ = some x.vv ∧
    w.cell? ⟨b, off + j * 6 + 3, none⟩ = some x.fv ∧ w.cell? ⟨b, off + j * 6 + 4, none⟩ = some x.tv ∧ w.cell? ⟨b, off + j * 6 + 5, none⟩ = some (.bool x.en) ∧
    (-9223372036854775808 ≤ x.d ∧ x.d ≤ 9223372036854775807) ∧ Lent8 B w x.kv x.k ∧ Lent8 B w x.vv x.v ∧ Lent8 B w x.fv x.f ∧ Lent8 B w x.tv x.t)

theorem Lent8.below {B : Nat} {w w' : World} {v : Value} {bs : List UInt8} (h : Lent8 B w v bs) (hb : Below B w w') : Lent8 B w' v bs := ⟨h.1.below hb, h.2⟩

theorem ActsB.below {B : Nat} {w w' : World} {v : Value} {xs : List ActB} (h : ActsB B w v xs) (hb : Below B w w') : ActsB B w' v xs := by
  obtain ⟨a, c, hv, h1, h2, h3⟩ := h
  refine ⟨a, c, hv, h1, h2, fun hne => ?_⟩
  obtain ⟨b, off, ha, hlt, hc⟩ := h3 hne
  have e := fun i => hb.cell (p := ⟨b, i, none⟩) hlt
  refine ⟨b, off, ha, hlt, fun j x hx => ?_⟩
  obtain ⟨c0, c1, c2, c3, c4, c5, i0, s1, s2, s3, s4⟩ := hc j x hx
  exact ⟨(e _).trans c0, (e _).trans c1, (e _).trans c2, (e _).trans c3, (e _).trans c4, (e _).trans c5, i0, s1.below hb, s2.below hb, s3.below hb, s4.below hb⟩

/-- One act. -/
theorem ActsB.at {B : Nat} {w : World} {a : Option Addr} {l c : Nat} {xs : List ActB} (h : ActsB B w (.slice a l c) xs) (k : Nat) (hk : k < xs.length) :
    ∃ b off x, a = some ⟨b, off, none⟩ ∧ b < B ∧ xs[k]? = some x ∧ (∀ w', Below B w w' → w'.cell? ⟨b, off + k * 6, none⟩ = some (.int .i64 x.d) ∧ w'.cell? ⟨b, off + k * 6 + 1, none⟩ = some x.kv ∧ w'.cell? ⟨b, off + k * 6 + 2, none⟩ = some x.vv ∧
    w'.cell? ⟨b, off + k * 6 + 3, none⟩ = some x.fv ∧ w'.cell? ⟨b, off + k * 6 + 4, none⟩ = some x.tv ∧ w'.cell? ⟨b, off + k * 6 + 5, none⟩ = some (.bool x.en)) ∧
    (-9223372036854775808 ≤ x.d ∧ x.d ≤ 9223372036854775807) ∧ Lent8 B w x.kv x.k ∧ Lent8 B w x.vv x.v ∧ Lent8 B w x.fv x.f ∧ Lent8 B w x.tv x.t := by
  obtain ⟨a', c', hv, h1, h2, h3⟩ := h
  simp only [Value.slice.injEq] at hv
  obtain ⟨rfl, rfl, rfl⟩ := hv
  obtain ⟨b, off, rfl, hlt, hc⟩ := h3 (by intro e; rw [e] at hk; simp at hk)
  obtain ⟨x, hx⟩ : ∃ x, xs[k]? = some x := ⟨_, List.getElem?_eq_getElem hk⟩
  obtain ⟨c0, c1, c2, c3, c4, c5, i0, s1, s2, s3, s4⟩ := hc k x hx
  refine ⟨b, off, x, rfl, hlt, hx, fun w' hb => ?_, i0, s1, s2, s3, s4⟩
  have e := fun i => hb.cell (p := ⟨b, i, none⟩) hlt
  exact ⟨(e _).trans c0, (e _).trans c1, (e _).trans c2, (e _).trans c3, (e _).trans c4, (e _).trans c5⟩

theorem Lent8.form {B : Nat} {w : World} {v : Value} {bs : List UInt8} (h : Lent8 B w v bs) : ∃ a c, v = .slice a bs.length c := by
  obtain ⟨⟨a, c, rfl, _⟩, _⟩ := h
  exact ⟨a, c, rfl⟩

theorem Lent8.says {B : Nat} {w w' : World} {v : Value} {bs : List UInt8} (h : Lent8 B w v bs) (hb : Below B w w') (hB : B ≤ w'.heap.size) : Says w' v bs := (h.1.below hb).mono hB

set_option maxHeartbeats 8000000 in
theorem made_any {BT : (Nat → Prop) → World → Nat → List (List Ent) → Nat → Prop} (HA : Api BT) (v : Value) (xs : List ActB) (B : Nat) (w : World) (hB : B ≤ w.heap.size) (hX : ActsB B w v xs) :
    Calls Try.prog 20 #[v] w fun e w' => ∃ tb L, e = .returned (.pointer (some ⟨tb, 0, none⟩)) ∧ BL BT (fun i => w.heap.size ≤ i) w' tb L ∧ L.length ≤ 80 ∧ Below w.heap.size w w' := by
  obtain ⟨a, c, rfl, h1, h2, _⟩ := id hX
  unfold maxLen at h2
  have HX := hid hX
  clear hX
  go_enter Try.func20, Try.ntmps20
  go_wp2_with fail
  refine (HA.newB w).mono ?_
  rintro e w1 ⟨tb, rfl, R1, hb1⟩
  go_wp2_with fail
  go_loopw [4] (fun i wr => ∃ (k : Nat) (L : List Ent), k ≤ 80 ∧ k ≤ xs.length ∧ i = .int .i64 (k : Int) ∧ L.length ≤ k ∧ Hid (BL BT (fun i => w.heap.size ≤ i) wr tb L) ∧ Hid (Below w.heap.size w wr)) (fun i _ => 80 - (intOf i).toNat)
  case atStart => exact ⟨0, [], by omega, by omega, rfl, by simp, hid R1, hid hb1⟩
  case round =>
    obtain ⟨k, L, hk, hkl, rfl, hL, HR, HB⟩ := hrel
    have hszr := HB.out.size
    clear R1 hb1
    by_cases hlt : k < xs.length
    · have hki : (k : Int) < (xs.length : Int) := by omega
      by_cases h80 : k < 80
      · have hk80 : (k : Int) < 80 := by omega
        have hk0 : (0 : Int) ≤ (k : Int) := by omega
        obtain ⟨b, off, ⟨d, kv, vv, fv, tv, en, kb, vb, fb, tb'⟩, rfl, hbl, hx, hc, i0, s1, s2, _, _⟩ := (HX.out.below (HB.out.mono hB)).at k hlt
        obtain ⟨ka, kc, rfl⟩ : ∃ a c, kv = .slice a kb.length c := s1.form
        obtain ⟨va, vc, rfl⟩ : ∃ a c, vv = .slice a vb.length c := s2.form
        obtain ⟨c0, c1, c2, _⟩ := hc wr (Below.refl _ _)
        simp only at c0 c1 c2 s1 s2
        by_cases hd0 : d = 0
        · subst hd0
          have hS0 : wr.drew.cell? ⟨b, off + k * 6 + 1, none⟩ = some (.slice ka kb.length kc) ∧ wr.drew.cell? ⟨b, off + k * 6 + 2, none⟩ = some (.slice va vb.length vc) := ⟨c1, c2⟩
          have hb0 : Below wr.heap.size wr wr.drew := below_drewN _ wr 1
          have HP := HA.putB _ _ kb vb (HA.newL HR.out hb0) (fun i hi => by have := hb0.size; omega) (s1.says (hb0.mono (by omega)) (by have := hb0.size; omega)) (s2.says (hb0.mono (by omega)) (by have := hb0.size; omega)) ⟨s1.2, s2.2⟩ (by omega)
          have HFW := hid (putL_few L (kb, vb))
          generalize putL L (kb, vb) = L' at *
          generalize hitK L kb = r at *
          have HC0 : Hid (∀ W, Below B wr W → W.cell? ⟨b, off + k * 6, none⟩ = some (.int .i64 0) ∧ W.cell? ⟨b, off + k * 6 + 1, none⟩ = some (.slice ka kb.length kc) ∧ W.cell? ⟨b, off + k * 6 + 2, none⟩ = some (.slice va vb.length vc)) := hid fun W hW => ⟨(hc W hW).1, (hc W hW).2.1, (hc W hW).2.2.1⟩
          clear s1 s2 hc hx hb0
          go_wp2_with fail
          go_region_held3 (fun w' => w'.cell? ⟨b, off + k * 6 + 1, none⟩ = some (.slice ka kb.length kc) ∧ w'.cell? ⟨b, off + k * 6 + 2, none⟩ = some (.slice va vb.length vc))
            (first | assumption)
            ((go_at_call 11; refine HP.mono ?_; clear HP; rintro e wn ⟨rfl, Rn, hsn⟩
              have hbn : Below w.heap.size wr wn := (below_drewN _ wr 1).trans (hsn.below (fun i hi => hi) hszr)
              have hcn := HC0.out wn (hbn.mono hB)
              have hcn0 := hcn.1
              have hSn := hcn.2))
          have HRN := hid Rn
          have HBN := hid (HB.out.trans hbn)
          clear Rn hbn c0 c1 c2 hS0 HC0 hcn hSn hsn
          go_wp2
          go_roundw
          case rel => exact ⟨k + 1, L', by omega, by omega, by go_num, by have := HFW.out; omega, HRN, HBN⟩
          case measure => simp [intOf]; omega
        · have hd0' : (d == 0) = false := by simpa using hd0
          by_cases hd1 : d = 1
          · subst hd1
            have HD := HA.deleteB _ kb HR.out (fun i hi => by omega) (s1.says (Below.refl _ _) (by omega)) (by omega)
            have HFW := hid (delL_few L kb)
            generalize delL L kb = L' at *
            generalize hitK L kb = r at *
            clear s1 s2 hc hx
            go_wp2_with fail
            refine HD.mono ?_
            clear HD
            rintro e wn ⟨rfl, Rn, hsn⟩
            have HRN := hid Rn
            have HBN := hid (HB.out.trans (hsn.below (fun i hi => hi) hszr))
            clear Rn hsn
            go_wp2_with fail
            go_roundw
            case rel => exact ⟨k + 1, L', by omega, by omega, by go_num, by have := HFW.out; omega, HRN, HBN⟩
            case measure => simp [intOf]; omega
          · have hd1' : (d == 1) = false := by simpa using hd1
            clear s1 s2 hc hx
            go_wp2
            go_roundw
            case rel => exact ⟨k + 1, L, by omega, by omega, by go_num, by omega, HR, HB⟩
            case measure => simp [intOf]; omega
      · have hk80 : ¬ (k : Int) < 80 := by omega
        go_wp2
        go_ret
        exact ⟨_, rfl, L, HR.out, by omega, HB.out⟩
    · have hki : ¬ (k : Int) < (xs.length : Int) := by omega
      go_wp2
      go_ret
      exact ⟨_, rfl, L, HR.out, by omega, HB.out⟩
end Go.Proofs.Ytjfipejfejmlaaa
