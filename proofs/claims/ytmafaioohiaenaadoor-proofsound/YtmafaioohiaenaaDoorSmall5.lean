/- Contracts of the law's small case and of short. -/
import Derived.Test.YtmafaioohiaenaaDoorLaw5
namespace Go.Proofs.YtmafaioohiaenaaDoor
open Go.RowKit Go.Shelf
set_option linter.unusedVariables false
set_option linter.unusedSimpArgs false
set_option maxRecDepth 20000

/-- Four literals and a slice of two entries of them. -/
theorem five_new (w : World) (x y u v : UInt8) (fr : Nat × Nat) : ∃ W, ((((w.alloc (.cells #[.int .u8 (x.toNat : Int)] 5 fr)).alloc (.cells #[.int .u8 (y.toNat : Int)] 5 fr)).alloc (.cells #[.int .u8 (u.toNat : Int)] 5 fr)).alloc (.cells #[.int .u8 (v.toNat : Int)] 5 fr)).alloc
      (.cells #[.slice (some ⟨w.heap.size, 0, none⟩) 1 1, .slice (some ⟨w.heap.size + 1, 0, none⟩) 1 1, .slice (some ⟨w.heap.size + 2, 0, none⟩) 1 1, .slice (some ⟨w.heap.size + 3, 0, none⟩) 1 1] 26) = W ∧
    Below w.heap.size w W ∧ Ents W.heap.size W (.slice (some ⟨w.heap.size + 4, 0, none⟩) 2 2) [⟨.slice (some ⟨w.heap.size, 0, none⟩) 1 1, .slice (some ⟨w.heap.size + 1, 0, none⟩) 1 1, [x], [y]⟩, ⟨.slice (some ⟨w.heap.size + 2, 0, none⟩) 1 1, .slice (some ⟨w.heap.size + 3, 0, none⟩) 1 1, [u], [v]⟩] := by
  obtain ⟨W, hW, c0, c1, c2, c3, c4, hb, hz⟩ := alloc5 w (.cells #[.int .u8 (x.toNat : Int)] 5 fr) (.cells #[.int .u8 (y.toNat : Int)] 5 fr) (.cells #[.int .u8 (u.toNat : Int)] 5 fr) (.cells #[.int .u8 (v.toNat : Int)] 5 fr)
    (.cells #[.slice (some ⟨w.heap.size, 0, none⟩) 1 1, .slice (some ⟨w.heap.size + 1, 0, none⟩) 1 1, .slice (some ⟨w.heap.size + 2, 0, none⟩) 1 1, .slice (some ⟨w.heap.size + 3, 0, none⟩) 1 1] 26)
  have one : ∀ (g : Nat) (q : UInt8), W.heap[g]? = some (.cells #[.int .u8 (q.toNat : Int)] 5 fr) → Shows W.heap.size W (.slice (some ⟨g, 0, none⟩) 1 1) [q] := fun g q hg =>
    ⟨_, 1, rfl, Nat.le_refl _, by decide, fun e => (by cases e), fun _ => ⟨g, 0, rfl, block_lt hg, fun j hj => by
      have : j = 0 := by simp at hj; omega
      subst this
      rw [cell_of_row _ _ _ _ _ _ hg]; rfl⟩⟩
  refine ⟨W, hW, hb, _, 2, rfl, Nat.le_refl _, by decide, fun _ => ⟨w.heap.size + 4, 0, rfl, by omega, fun j x hx => ?_⟩⟩
  match j, hx with
  | 0, hx => simp at hx; subst hx; exact ⟨by rw [cell_of_row _ _ _ _ _ _ c4]; rfl, by rw [cell_of_row _ _ _ _ _ _ c4]; rfl, one _ _ c0, one _ _ c1⟩
  | 1, hx => simp at hx; subst hx; exact ⟨by rw [cell_of_row _ _ _ _ _ _ c4]; rfl, by rw [cell_of_row _ _ _ _ _ _ c4]; rfl, one _ _ c2, one _ _ c3⟩

theorem two_puts (kv vv ku vu : Value) : ([⟨kv, vv, [97], [49]⟩, ⟨ku, vu, [98], [50]⟩] : List EntV).foldl (fun T x => putIf T x.ent) none = some tAB := by
  simp only [List.foldl_cons, List.foldl_nil, EntV.ent]
  rw [show putIf none ([97], [49]) = some tA from rfl]
  unfold putIf
  rw [if_pos (by decide), put_b]

theorem two_lits (w : World) (u v : UInt8) (fr : Nat × Nat) : Says ((w.alloc (.cells #[.int .u8 (u.toNat : Int)] 5 fr)).alloc (.cells #[.int .u8 (v.toNat : Int)] 5 fr)) (.slice (some ⟨w.heap.size, 0, none⟩) 1 1) [u] ∧ Says ((w.alloc (.cells #[.int .u8 (u.toNat : Int)] 5 fr)).alloc (.cells #[.int .u8 (v.toNat : Int)] 5 fr)) (.slice (some ⟨w.heap.size + 1, 0, none⟩) 1 1) [v] ∧
    Below w.heap.size w ((w.alloc (.cells #[.int .u8 (u.toNat : Int)] 5 fr)).alloc (.cells #[.int .u8 (v.toNat : Int)] 5 fr)) ∧ True := by
  have h := says_two w u v 5 fr fr
  exact ⟨h.1, h.2, (alloc2 w _ _).2.2.1, trivial⟩

theorem slices_of {B : Nat} {w : World} {p : Prf} {kv vv sv : Value} (h : PAt B w p kv vv sv) : ∃ x y z : Option Addr × Nat, kv = .slice x.1 p.k.length x.2 ∧ vv = .slice y.1 p.v.length y.2 ∧ sv = .slice z.1 p.st.length z.2 := by
  obtain ⟨ka, kc, e1, _⟩ := h.hk
  obtain ⟨va, vc, e2, _⟩ := h.hv
  obtain ⟨sa, sc, e3, _⟩ := h.hs.form
  exact ⟨(ka, kc), (va, vc), (sa, sc), e1, e2, e3⟩

theorem wf_tAB : Tri.WFO (some tAB) := by
  rw [← put_b]
  exact (Tri.put_spec (some tA) (show Tri.short _ by decide) _ (by decide)).1

theorem tell_a : (mkP (some tAB) [97]).tells (rootO (some tAB)) [97] = (0, true, [49]) := by
  rw [mkP_tells _ _ wf_tAB]
  rfl

theorem tell_c : (mkP (some tAB) [99]).tells (rootO (some tAB)) [99] = (0, false, []) := by
  rw [mkP_tells _ _ wf_tAB]
  rfl

theorem tell_ab : (mkP (some tAB) [98]).tells (rootO (some tAB)) [97] = (5, false, []) := mkP_off _ _ _ wf_tAB rfl _

set_option maxHeartbeats 4000000 in
theorem small5_any (w : World) (ht : Tables w) : Calls Tryd.prog 8 #[] w fun e w' => e = .returned (.bool true) ∧ Below w.heap.size w w' := by
  have kc := fun (w : World) (C : Array Value) (n c : Nat) => Lib.run_convert_bytes_const (P := Tryd.prog) w 24 5 C n c Tryd.underlying24 Tryd.underlying5
  have kc2 := fun (w : World) (o : Obj) (C : Array Value) (n c : Nat) => kc (w.alloc o) C n c
  have kc3 := fun (w : World) (o o' : Obj) (C : Array Value) (n c : Nat) => kc ((w.alloc o).alloc o') C n c
  have kc4 := fun (w : World) (o o' o'' : Obj) (C : Array Value) (n c : Nat) => kc (((w.alloc o).alloc o').alloc o'') C n c
  simp only [World.size_alloc] at kc2 kc3 kc4
  have hlt := ht.lt
  have HT := hid ht
  clear ht
  go_enter Tryd.func8, Tryd.ntmps8
  go_wp2_with fail
  obtain ⟨W, hW, hbW, hE⟩ := five_new w 97 49 98 50 (1, 2)
  have HMD := (made5_any _ _ W hE).mono (R' := fun e w' => ∃ tb, e = .returned (.pointer (some ⟨tb, 0, none⟩)) ∧ TreeB tb w' tb (some tAB) ∧ Below w.heap.size w w') (fun e w' ⟨h1, h2, _, h4⟩ => ⟨_, h1, by
    rw [show (List.take 12 _).foldl _ none = some tAB from two_puts _ _ _ _] at h2
    exact h2, hbW.trans (h4.mono hbW.size)⟩)
  subst hW
  refine HMD.mono ?_
  clear HMD hbW hE
  rintro e w1 ⟨tb, rfl, R1, b1⟩
  go_wp2_with fail
  refine (root_B tb tb (some tAB) _ R1 (HT.out.below b1 (by omega))).mono ?_
  rintro e w2 ⟨rfl, hb2⟩
  have R2 := R1.new hb2
  have b2 := b1.trans (hb2.mono b1.size)
  clear hb2 R1 b1
  go_wp2_with fail
  have h2 := two_lits w2 97 97 (1, 2)
  refine (make_any tb tb (some tAB) _ [97] _ (R2.new h2.2.2.1) h2.2.1 (HT.out.below (b2.trans (h2.2.2.1.mono b2.size)) (by omega)) (by decide)).mono ?_
  rintro e w3 ⟨ek3, ev3, sv3, rfl, hp3, hb3⟩
  have hk3 : Says w3 (.slice (some ⟨w2.heap.size, 0, none⟩) 1 1) [97] := h2.1.new hb3
  have R3 := (R2.new h2.2.2.1).new hb3
  have b3 := (b2.trans (h2.2.2.1.mono b2.size)).trans (hb3.mono (Nat.le_trans b2.size h2.2.2.1.size))
  clear hb3 R2 b2 h2
  obtain ⟨x3, y3, z3, rfl, rfl, rfl⟩ := slices_of hp3
  go_wp2_with fail
  refine (check_any _ (mkP (some tAB) [97]) _ _ _ _ (rootO (some tAB)) [97] w3 (Nat.le_refl _) hp3 hk3 (rootO_length _) (HT.out.below b3 (by omega))).mono ?_
  rw [tell_a]
  rintro e w4 ⟨v4, rfl, hc4, hb4⟩
  obtain ⟨va4, vc4, rfl⟩ := hc4.form
  have R4 := R3.new hb4
  have b4 := b3.trans (hb4.mono b3.size)
  have s4 : Says w4 (.slice va4 1 vc4) [49] := hc4.says
  have d4 : Below w4.heap.size w4 w4 := Below.refl _ _
  clear hc4
  clear hb4 R3 b3 hp3 hk3
  go_wp2_with fail
  refine (root_B tb tb (some tAB) _ R4 (HT.out.below b4 (by omega))).mono ?_
  rintro e w5 ⟨rfl, hb5⟩
  have R5 := R4.new hb5
  have b5 := b4.trans (hb5.mono b4.size)
  have d5 := d4.trans (hb5.mono d4.size)
  clear d4 hb5 R4 b4
  go_wp2_with fail
  have h5 := two_lits w5 99 99 (1, 2)
  refine (make_any tb tb (some tAB) _ [99] _ (R5.new h5.2.2.1) h5.2.1 (HT.out.below (b5.trans (h5.2.2.1.mono b5.size)) (by omega)) (by decide)).mono ?_
  rintro e w6 ⟨ek6, ev6, sv6, rfl, hp6, hb6⟩
  have hk6 : Says w6 (.slice (some ⟨w5.heap.size, 0, none⟩) 1 1) [99] := h5.1.new hb6
  have R6 := (R5.new h5.2.2.1).new hb6
  have b6 := (b5.trans (h5.2.2.1.mono b5.size)).trans (hb6.mono (Nat.le_trans b5.size h5.2.2.1.size))
  have d6 := (d5.trans (h5.2.2.1.mono d5.size)).trans (hb6.mono (Nat.le_trans d5.size h5.2.2.1.size))
  clear d5 hb6 R5 b5 h5
  obtain ⟨x6, y6, z6, rfl, rfl, rfl⟩ := slices_of hp6
  go_wp2_with fail
  refine (check_any _ (mkP (some tAB) [99]) _ _ _ _ (rootO (some tAB)) [99] w6 (Nat.le_refl _) hp6 hk6 (rootO_length _) (HT.out.below b6 (by omega))).mono ?_
  rw [tell_c]
  rintro e w7 ⟨v7, rfl, hc7, hb7⟩
  obtain ⟨va7, vc7, rfl⟩ := hc7.form
  have R7 := R6.new hb7
  have b7 := b6.trans (hb7.mono b6.size)
  have d7 := d6.trans (hb7.mono d6.size)
  clear d6 hb7 R6 b6 hp6 hk6
  go_wp2_with fail
  refine (root_B tb tb (some tAB) _ R7 (HT.out.below b7 (by omega))).mono ?_
  rintro e w8 ⟨rfl, hb8⟩
  have R8 := R7.new hb8
  have b8 := b7.trans (hb8.mono b7.size)
  have d8 := d7.trans (hb8.mono d7.size)
  clear d7 hb8 R7 b7
  go_wp2_with fail
  have h8 := two_lits w8 97 98 (1, 2)
  refine (make_any tb tb (some tAB) _ [98] _ (R8.new h8.2.2.1) h8.2.1 (HT.out.below (b8.trans (h8.2.2.1.mono b8.size)) (by omega)) (by decide)).mono ?_
  rintro e w9 ⟨ek9, ev9, sv9, rfl, hp9, hb9⟩
  have hk9 : Says w9 (.slice (some ⟨w8.heap.size, 0, none⟩) 1 1) [97] := h8.1.new hb9
  have R9 := (R8.new h8.2.2.1).new hb9
  have b9 := (b8.trans (h8.2.2.1.mono b8.size)).trans (hb9.mono (Nat.le_trans b8.size h8.2.2.1.size))
  have d9 := (d8.trans (h8.2.2.1.mono d8.size)).trans (hb9.mono (Nat.le_trans d8.size h8.2.2.1.size))
  clear d8 hb9 R8 b8 h8
  obtain ⟨x9, y9, z9, rfl, rfl, rfl⟩ := slices_of hp9
  go_wp2_with fail
  refine (check_any _ (mkP (some tAB) [98]) _ _ _ _ (rootO (some tAB)) [97] w9 (Nat.le_refl _) hp9 hk9 (rootO_length _) (HT.out.below b9 (by omega))).mono ?_
  rw [tell_ab]
  rintro e w10 ⟨v10, rfl, hc10, hb10⟩
  obtain ⟨va10, vc10, rfl⟩ := hc10.form
  have R10 := R9.new hb10
  have b10 := b9.trans (hb10.mono b9.size)
  have d10 := d9.trans (hb10.mono d9.size)
  clear d9 hb10 R9 b9 hp9 hk9
  have k1 := run_string_shows (P := Tryd.prog) 24 5 9 Tryd.underlying24 Tryd.underlying5 Tryd.underlying9 (s4.below d10)
  rw [show str8 [49] = ⟨#[49]⟩ from rfl] at k1
  clear kc kc2 kc3 kc4 hc7 hc10 R10 s4 d10
  go_wp2
  go_ret
  exact ⟨rfl, b10⟩

set_option maxHeartbeats 2000000 in
theorem short_any (B : Nat) (p : Prf) (kv vv sv : Value) (w : World) (hp : PAt B w p kv vv sv) :
    Calls Tryd.prog 9 #[.agg #[.bool p.no, kv, vv, sv]] w fun r w' => r = .returned (.bool (decide (p.k.length ≤ 4096 ∧ p.v.length ≤ 4096 ∧ p.st.length ≤ 2000))) ∧ Below w.heap.size w w' := by
  obtain ⟨ka, kc, rfl, hk1, hk2, _⟩ := id hp.hk
  obtain ⟨va, vc, rfl, hv1, hv2, _⟩ := id hp.hv
  obtain ⟨sa, sc, rfl, hs1, hs2⟩ := hp.hs.form
  unfold maxLen at hk2 hv2 hs2
  have HX2 : Hid (Below w.heap.size w (w.alloc (.cells #[.bool p.no, .slice ka p.k.length kc, .slice va p.v.length vc, .slice sa p.st.length sc] 29))) := hid ((Below.refl _ _).alloc (Nat.le_refl _) _)
  clear hp
  by_cases h1 : p.k.length ≤ 4096
  · by_cases h2 : p.v.length ≤ 4096
    · by_cases h3 : p.st.length ≤ 2000
      · have HM : Hid (decide (p.k.length ≤ 4096 ∧ p.v.length ≤ 4096 ∧ p.st.length ≤ 2000) = true) := hid (decide_eq_true ⟨h1, h2, h3⟩)
        generalize decide (p.k.length ≤ 4096 ∧ p.v.length ≤ 4096 ∧ p.st.length ≤ 2000) = M at *
        go_enter Tryd.func9, Tryd.ntmps9
        go_wp2
        go_ret
        exact ⟨by rw [HM.out]; exact congrArg (fun b => Ending.returned (.bool b)) (decide_eq_true (by omega)), HX2.out⟩
      · have HM : Hid (decide (p.k.length ≤ 4096 ∧ p.v.length ≤ 4096 ∧ p.st.length ≤ 2000) = false) := hid (decide_eq_false (by omega))
        generalize decide (p.k.length ≤ 4096 ∧ p.v.length ≤ 4096 ∧ p.st.length ≤ 2000) = M at *
        have h3' : (2000 : Int) < (p.st.length : Int) := by omega
        go_enter Tryd.func9, Tryd.ntmps9
        go_wp2
        go_ret
        exact ⟨by rw [HM.out]; exact congrArg (fun b => Ending.returned (.bool b)) (decide_eq_false (by omega)), HX2.out⟩
    · have HM : Hid (decide (p.k.length ≤ 4096 ∧ p.v.length ≤ 4096 ∧ p.st.length ≤ 2000) = false) := hid (decide_eq_false (by omega))
      generalize decide (p.k.length ≤ 4096 ∧ p.v.length ≤ 4096 ∧ p.st.length ≤ 2000) = M at *
      have h2' : (4096 : Int) < (p.v.length : Int) := by omega
      go_enter Tryd.func9, Tryd.ntmps9
      go_wp2
      go_ret
      exact ⟨by rw [HM.out]; rfl, HX2.out⟩
  · have HM : Hid (decide (p.k.length ≤ 4096 ∧ p.v.length ≤ 4096 ∧ p.st.length ≤ 2000) = false) := hid (decide_eq_false (by omega))
    generalize decide (p.k.length ≤ 4096 ∧ p.v.length ≤ 4096 ∧ p.st.length ≤ 2000) = M at *
    have h1' : (4096 : Int) < (p.k.length : Int) := by omega
    go_enter Tryd.func9, Tryd.ntmps9
    go_wp2
    go_ret
    exact ⟨by rw [HM.out]; rfl, HX2.out⟩
end Go.Proofs.YtmafaioohiaenaaDoor
