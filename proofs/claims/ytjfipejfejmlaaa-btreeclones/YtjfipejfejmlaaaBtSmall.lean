/- Contract of stage 14's small case. -/
import Derived.Test.YtjfipejfejmlaaaBtApi
import Derived.Lib.SlBytesConst
namespace Go.Proofs.Ytjfipejfejmlaaa
open Go.RowKit Go.Shelf
set_option linter.unusedVariables false
set_option linter.unusedSimpArgs false
set_option maxRecDepth 20000

theorem says_two (w : World) (u v : UInt8) (t : TypeId) (fr fr' : Nat × Nat) : Says ((w.alloc (.cells #[.int .u8 (u.toNat : Int)] t fr)).alloc (.cells #[.int .u8 (v.toNat : Int)] t fr')) (.slice (some ⟨w.heap.size, 0, none⟩) 1 1) [u] ∧ Says ((w.alloc (.cells #[.int .u8 (u.toNat : Int)] t fr)).alloc (.cells #[.int .u8 (v.toNat : Int)] t fr')) (.slice (some ⟨w.heap.size + 1, 0, none⟩) 1 1) [v] := by
  refine ⟨(says_one w u t fr).new (new_alloc _ _), ?_⟩
  have := says_one (w.alloc (.cells #[.int .u8 (u.toNat : Int)] t fr)) v t fr'
  rwa [World.size_alloc] at this

/-- The five entries of the small case. -/
def five : List Ent := [([97], [118]), ([98], [118]), ([99], [118]), ([100], [118]), ([101], [118])]

theorem five_hit (k : Nat) (hk : k < 5) : hitK (five.take k) [(97 + k).toUInt8] = false := by
  match k, hk with
  | 0, _ => rfl
  | 1, _ => rfl
  | 2, _ => rfl
  | 3, _ => rfl
  | 4, _ => rfl

theorem five_put (k : Nat) (hk : k < 5) : putL (five.take k) ([(97 + k).toUInt8], [118]) = five.take (k + 1) := by
  match k, hk with
  | 0, _ => rfl
  | 1, _ => rfl
  | 2, _ => rfl
  | 3, _ => rfl
  | 4, _ => rfl

theorem five_deep {P : List (List Ent)} {d : Nat} (h : Good P d) (hP : P.flatten = five) : d = 2 := by
  have hl : P.flatten.length = 5 := by rw [hP]; rfl
  have h1 : P.length ≠ 1 := fun e => by
    match P, e with
    | [p], _ =>
      have := h.most p (by simp)
      simp at hl
      omega
  have h2 : d ≠ 1 := fun e => h1 (h.one.1 e)
  have h3 := h.pos
  have h4 := h.few (by omega)
  rcases Nat.lt_or_ge d 3 with h5 | h5
  · omega
  · have h6 : 2 ^ 3 ≤ 2 ^ d := Nat.pow_le_pow_right (by omega) h5
    omega

set_option maxHeartbeats 8000000 in
theorem small_any {BT : (Nat → Prop) → World → Nat → List (List Ent) → Nat → Prop} (HA : Api BT) (w : World) : Calls Try.prog 8 #[] w fun e w' => e = .returned (.bool true) ∧ Below w.heap.size w w' := by
  have kc := fun (w : World) (C : Array Value) (n c : Nat) => Lib.run_convert_bytes_const (P := Try.prog) w 30 5 C n c Try.underlying30 Try.underlying5
  have kc2 := fun (w : World) (o : Obj) (C : Array Value) (n c : Nat) => kc (w.alloc o) C n c
  simp only [World.size_alloc] at kc2
  go_enter Try.func8, Try.ntmps8
  go_wp2_with fail
  refine (HA.newB w).mono ?_
  rintro e w1 ⟨tb, rfl, R1, hb1⟩
  go_wp2_with fail
  go_loopw [2] (fun i wr => ∃ k : Nat, k ≤ 5 ∧ i = .int .i64 (k : Int) ∧ Hid (BL BT (fun i => w.heap.size ≤ i) wr tb (five.take k)) ∧ Hid (Below w.heap.size w wr)) (fun i _ => 5 - (intOf i).toNat)
  case atStart => exact ⟨0, by omega, rfl, hid R1, hid hb1⟩
  case round =>
    obtain ⟨k, hk, rfl, HR, HB⟩ := hrel
    have hszr := HB.out.size
    clear R1 hb1
    by_cases hlt : k < 5
    · have hki : (k : Int) < 5 := by omega
      have hs := says_two wr (97 + k).toUInt8 118 5 (0, 0) (1, 2)
      have hw1 : IntKind.i64.wrap (97 + (k : Int)) = 97 + (k : Int) := by rw [IntKind.wrap_i64]; omega
      have hw2 : IntKind.u8.wrap (97 + (k : Int)) = (((97 + k).toUInt8).toNat : Int) := by
        rw [IntKind.wrap_u8]
        simp [Nat.toUInt8] <;> omega
      have hb2 : Below wr.heap.size wr ((wr.alloc (.cells #[.int .u8 (((97 + k).toUInt8).toNat : Int)] 5 (0, 0))).alloc (.cells #[.int .u8 118] 5 (1, 2))) := ((Below.refl _ _).alloc (Nat.le_refl _) _).alloc (by simp) _
      have HP := HA.putB _ _ [(97 + k).toUInt8] [118] (HA.newL HR.out hb2) (fun i hi => by have := hb2.size; omega) hs.1 hs.2 ⟨by simp, by simp⟩ (by simp [five]; omega)
      rw [five_hit k hlt, five_put k hlt] at HP
      generalize (97 + k).toUInt8 = u at *
      have HB2 := hid (HB.out.trans (hb2.mono hszr))
      clear hs hb2
      go_wp2_with fail
      refine HP.mono ?_
      clear HP
      rintro e w3 ⟨rfl, R3, hs3⟩
      have HR3 := hid R3
      have HB3 := hid (HB2.out.trans (hs3.below (fun i hi => hi) HB2.out.size))
      clear R3 hs3
      go_wp2_with fail
      go_roundw
      case rel => exact ⟨k + 1, by omega, by go_num, HR3, HB3⟩
      case measure => simp [intOf]; omega
    · have hki : ¬ (k : Int) < 5 := by omega
      have hk5 : k = 5 := by omega
      subst hk5
      rw [show five.take 5 = five from rfl] at HR
      have hs := says_two wr 98 100 5 (1, 2) (1, 2)
      have hb2 : Below wr.heap.size wr ((wr.alloc (.cells #[.int .u8 98] 5 (1, 2))).alloc (.cells #[.int .u8 100] 5 (1, 2))) := ((Below.refl _ _).alloc (Nat.le_refl _) _).alloc (by simp) _
      have HP := HA.rangeB _ _ [98] [100] true (HA.newL HR.out hb2) hs.1 hs.2 (by decide)
      have HR2 := hid (HA.newL HR.out hb2)
      have HB2 := hid (HB.out.trans (hb2.mono hszr))
      clear hs hb2 HR HB
      go_wp2_with fail
      refine HP.mono ?_
      clear HP
      rintro e w3 ⟨sv, xs, rfl, hr3, hx3, hb3⟩
      obtain ⟨x, y, rfl⟩ : ∃ x y, xs = [x, y] := by
        have hl : xs.length = 2 := by rw [← List.length_map (f := EntV.ent), hx3]; rfl
        match xs, hl with
        | [x, y], _ => exact ⟨x, y, rfl⟩
      have hxk : x.k = [98] := by
        have : ([x, y].map EntV.ent)[0]? = some ([98], [118]) := by rw [hx3]; rfl
        simp [EntV.ent] at this
        exact this.1
      obtain ⟨⟨a3, c3, rfl⟩, _⟩ := row_form2 hr3.row
      simp only [List.length_cons, List.length_nil, Nat.zero_add, Nat.reduceAdd] at *
      have hE3 := hr3.ents
      have HR3 := hid (HA.newL HR2.out hb3)
      have HB3 := htr HB2 hb3
      clear hb3 hr3 hx3 HR2 HB2
      have hz3 := HB3.out.size
      have HG := HA.getB _ [99] (HA.newL HR3.out (new_alloc w3 (.cells #[.int .u8 99] 5 (1, 2)))) (says_one w3 99 5 (1, 2)) (by decide)
      rw [show lookL five [99] = some [118] from by decide, show hitK five [99] = true from by decide] at HG
      go_wp2_with fail
      refine HG.mono ?_
      clear HG
      rintro e w4 ⟨v4, rfl, hc4, hb4⟩
      obtain ⟨a4, c4, rfl⟩ : ∃ a c, v4 = .slice a 1 c := hc4.form
      have hb4' : Below w3.heap.size w3 w4 := (new_alloc w3 _).trans (hb4.mono (by simp))
      have HR4 := hid (HA.newL HR3.out hb4')
      have HB4 := hid (HB3.out.trans (hb4'.mono hz3))
      have hE4 := hE3.new hb4'
      have hv4 := hc4.says
      clear hb4 hb4' hc4 hE3 HR3 HB3
      obtain ⟨S, P, d, hS, hP, _⟩ := id HR4.out
      have hd2 := five_deep (HA.good hS) hP
      subst hd2
      have HCN : Hid (∀ W, Below w4.heap.size w4 W → Calls Try.prog 13 #[.pointer (some ⟨tb, 0, none⟩)] W fun e w' => e = .returned (.int .i64 5) ∧ Below w4.heap.size w4 w') := hid (fun W hW => (HA.countB (HA.newL HR4.out hW) (by decide)).mono fun e w' ⟨q1, q2⟩ => ⟨q1, hW.trans (q2.mono hW.size)⟩)
      have HDP : Hid (∀ W, Below w4.heap.size w4 W → Calls Try.prog 19 #[.pointer (some ⟨tb, 0, none⟩)] W fun e w' => e = .returned (.int .i64 2) ∧ Below w4.heap.size w4 w') := hid (fun W hW => (HA.depth (HA.keep hS (R := fun _ => False) (Spares.of_new hW) (fun _ _ => id)) (by rw [hP]; decide)).mono fun e w' ⟨q1, q2⟩ => ⟨q1, hW.trans (q2.mono hW.size)⟩)
      clear hS
      have HE4 := hid hE4
      have HV4 := hid hv4
      clear hE4 hv4
      go_wp2_with fail
      refine (HCN.out _ (Below.refl _ _)).mono ?_
      rintro e w5 ⟨rfl, hb5⟩
      go_wp2_with fail
      refine (HDP.out _ hb5).mono ?_
      rintro e w6 ⟨rfl, hb6⟩
      obtain ⟨b, off, ka, kc', va, vc, kb, vb, e1, hb, hx, c0, _, s1, _⟩ := (HE4.out.new hb6).at 0 (by simp)
      subst e1
      simp only [List.getElem?_cons_zero, Option.some.injEq] at hx
      subst hx
      subst hxk
      rw [Nat.zero_mul, Nat.add_zero] at c0
      have k1 := str4 s1
      have k2 := str4 (HV4.out.new hb6)
      rw [show str8 [98] = ⟨#[98]⟩ from rfl] at k1
      rw [show str8 ((some [118]).getD []) = ⟨#[118]⟩ from rfl] at k2
      try simp only [List.length_cons, List.length_nil, Nat.zero_add] at k1
      try simp only [List.length_cons, List.length_nil, Nat.zero_add] at k2
      try simp only [List.length_cons, List.length_nil, Nat.zero_add] at c0
      have HB6 := htr HB4 hb6
      clear HCN HDP hb5 hb6 s1
      go_wp2
      go_ret
      exact ⟨rfl, HB6.out⟩
end Go.Proofs.Ytjfipejfejmlaaa
