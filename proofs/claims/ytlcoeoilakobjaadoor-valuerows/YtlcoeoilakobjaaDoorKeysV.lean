/- ValueKeys: whatever the value and the bytes. -/
import Derived.Test.YtlcoeoilakobjaaDoorRefV3
import Derived.Test.YtlcoeoilakobjaaDoorSmall7
import Derived.Test.YtlcoeoilakobjaaDoorOwned
namespace Go.Proofs.YtlcoeoilakobjaaDoor
open Go.RowKit
set_option linter.unusedVariables false
set_option linter.unusedSimpArgs false
set_option maxRecDepth 20000

theorem Lends.full {B : Nat} {w : World} {v : Value} {bs : List UInt8} (h : Lends B w v bs) : ∃ ys, Full B w v ys := by
  obtain ⟨g, rfl, ho⟩ := h
  exact ⟨_, .inr ⟨g, _, _, rfl, ho⟩⟩

theorem Lends.lt {B : Nat} {w : World} {v : Value} {bs : List UInt8} (h : Lends B w v bs) : ∀ k, v.ownBlock = some k → B ≤ k ∧ k < w.heap.size := by
  obtain ⟨g, rfl, ho⟩ := h
  intro k hk
  exact ho.lt k hk

theorem marked_nil0 (B : Nat) (w : World) : Marked B w [] 0 := fun j v hv => by simp at hv

theorem marked_cons {B : Nat} {w : World} {x : Value} {xs : List Value} {vs : List Value} (hx : Full B w x xs) (h : Marked B w vs 0) : Marked B w (x :: vs) 0 := by
  intro j v hv
  match j, hv with
  | 0, hv => simp at hv; subst hv; exact ⟨xs, hx, fun h => by omega⟩
  | j + 1, hv =>
    obtain ⟨ys, hf, _⟩ := h j v (by simpa using hv)
    exact ⟨ys, hf, fun h => by omega⟩

theorem apart_nil : Apart [] := fun i j u v g hu => by simp at hu

/-- One more, whose block is none of the others'. -/
theorem apart_cons {x : Value} {vs : List Value} (h : Apart vs) (hx : ∀ g, x.ownBlock = some g → ∀ v ∈ vs, v.ownBlock ≠ some g) : Apart (x :: vs) := by
  intro i j u v g hu hv hij hg hv2
  match i, j, hu, hv with
  | 0, 0, _, _ => exact hij rfl
  | 0, j + 1, hu, hv =>
    simp at hu
    subst hu
    exact hx g hg v (List.mem_of_getElem? (by simpa using hv)) hv2
  | i + 1, 0, hu, hv =>
    simp at hv
    subst hv
    exact hx g hv2 u (List.mem_of_getElem? (by simpa using hu)) hg
  | i + 1, j + 1, hu, hv => exact h i j u v g (by simpa using hu) (by simpa using hv) (by omega) hg hv2

theorem own_formK {w : World} {B e z n : Nat} {v : Value} {xs : List Value} (h : w.ownsRow B e z v n xs) : ∃ a c, v = .slice a n c := by
  rcases h.2 with ⟨rfl, rfl⟩ | ⟨g, cap, cur, rfl, _⟩
  · exact ⟨_, _, rfl⟩
  · exact ⟨_, _, rfl⟩

set_option maxHeartbeats 1000000 in
theorem keysV_law (x : Vl) (vb : Value) (bs : List UInt8) (w : World) (ox : OkV x) (hb : Shows w.heap.size w vb bs) (hl : bs.length ≤ 140737488351232) (hT : TabV w) :
    Calls Tryd.prog 4 #[.agg #[.int .i64 x.k, .int .i64 x.n, .string (str8 x.s)], vb] w fun e w' => e = .returned (.bool true) ∧ Below w.heap.size w w' := by
  obtain ⟨ab, cb, rfl, hb1, hb2, _⟩ := id hb
  unfold maxLen at hb2
  obtain ⟨xk, xn, xs⟩ := x
  unfold OkV at ox
  dsimp only at ox ⊢
  have hg := Tryd.eqGuardVal
  have HKX := hid (fun w => key_any xk xn xs w (by omega))
  have HKU := hid (fun w => dkey_any xk xn xs w ox.2.1.1 ox.2.1.2 (by omega))
  have HTK := hid (fun (B : Nat) (v : Value) w (h1 : B ≤ w.heap.size) (h2 : Shows B w v bs) => takeKey_any B v bs w h1 h2 hl)
  have HTU := hid (fun (B : Nat) (v : Value) w (h1 : B ≤ w.heap.size) (h2 : Shows B w v bs) => dtakeKey_any B v bs w h1 h2 hl)
  have hu := (tkV_used bs).2.1
  generalize tkV bs = R at *
  obtain ⟨er, ⟨rk, rn, rs⟩, used⟩ := R
  dsimp only at HTK HTU
  have heq : ∀ w, (binOp .eql 23 (.agg #[.int .i64 rk, .int .i64 rn, .string (str8 rs)]) (.agg #[.int .i64 rk, .int .i64 rn, .string (str8 rs)])).run Tryd.prog w = .ok (.bool true) w := fun w => by
    have := run_eqv ⟨rk, rn, rs⟩ ⟨rk, rn, rs⟩ w
    rw [eqv_iff.2 rfl] at this
    exact this
  generalize rightV ⟨xk, xn, xs⟩ = RX at *
  generalize keyOfV ⟨xk, xn, xs⟩ = KX at *
  obtain ⟨W, hW, hbW, hzW, hcW⟩ := box3 w (.int .i64 xk) (.int .i64 xn) (.string (str8 xs)) 23
  have HSM := hid (small7_any W (hT.below hbW hT.lt))
  have HC := hid hcW
  have HB := hid hbW
  have HS := hid hb
  clear hT hcW hbW ox hb hu
  go_enter Tryd.func4, Tryd.ntmps4
  go_wp2_with fail
  try rw [hW]
  clear hW
  refine HSM.out.mono ?_
  rintro e w1 ⟨rfl, d1⟩
  have D1 := hid d1
  have E1 := hid (HB.out.trans (d1.mono HB.out.size))
  clear d1 HSM
  go_wp2_with fail
  refine (lent_any w.heap.size _ bs w1 E1.out.size (HS.out.below E1.out) hl).mono ?_
  rintro e w2 ⟨v2, rfl, hL2, g2⟩
  have D2 : Hid (Below W.heap.size W w2) := hid (D1.out.trans (g2.mono D1.out.size))
  have z12 := g2.size
  clear g2
  have c2 := HC.out _ D2.out
  go_wp2_with fail
  refine (HKX.out w2).mono ?_
  rintro e w3 ⟨vx, rfl, hX3, g3⟩
  have D3 : Hid (Below W.heap.size W w3) := hid (D2.out.trans (g3.mono D2.out.size))
  have hL3 := hL2.below g3
  have hlt2 := hL2.lt
  have hltX := hX3.lt
  have z23 := g3.size
  clear c2 g3 hL2 HKX
  go_wp2_with fail
  refine (HTK.out w3.heap.size v2 w3 (Nat.le_refl _) (hL3.shows (by unfold maxLen; omega))).mono ?_
  rintro e w4 ⟨rfl, g4⟩
  have z34 := g4.size
  have D4 : Hid (Below W.heap.size W w4) := hid (D3.out.trans (g4.mono D3.out.size))
  obtain ⟨w5, hw5, g5, z45, hc5⟩ := box3h w4 (.int .i64 rk) (.int .i64 rn) (.string (str8 rs)) 23
  have D5 : Hid (Below W.heap.size W w5) := hid (D4.out.trans (g5.mono D4.out.size))
  have G35 := hid (g4.trans (g5.mono z34))
  have HC5 := hid hc5
  clear g4 g5 hc5 HTK
  have c5 := HC.out _ D5.out
  go_wp2_with fail
  try rw [hw5]
  clear hw5
  refine (HKU.out w5).mono ?_
  rintro e w6 ⟨vu, rfl, hU6, g6⟩
  have z56 := g6.size
  have D6 : Hid (Below W.heap.size W w6) := hid (D5.out.trans (g6.mono D5.out.size))
  have E6 := hid (HB.out.trans (D6.out.mono HB.out.size))
  have G6 := hid g6
  clear c5 g6 HKU
  go_wp2_with fail
  refine (HTU.out w.heap.size _ w6 E6.out.size (HS.out.below E6.out)).mono ?_
  rintro e w7 ⟨rfl, g7⟩
  have z67 := g7.size
  have D7 : Hid (Below W.heap.size W w7) := hid (D6.out.trans (g7.mono D6.out.size))
  obtain ⟨w8, hw8, g8, z78, hc8⟩ := box3h w7 (.int .i64 rk) (.int .i64 rn) (.string (str8 rs)) 23
  have D8 : Hid (Below W.heap.size W w8) := hid (D7.out.trans (g8.mono D7.out.size))
  have E8 := hid (HB.out.trans (D8.out.mono HB.out.size))
  have G68 := hid (g7.trans (g8.mono z67))
  have G58 := hid (G6.out.trans (G68.out.mono z56))
  have G38 := hid (G35.out.trans (G58.out.mono (by omega)))
  have HC8 := hid hc8
  clear g7 g8 hc8 HTU
  go_wp2_with fail
  try rw [hw8]
  clear hw8
  refine (kept_any w1.heap.size w.heap.size v2 _ bs w8 (hL3.below G38.out) (HS.out.below E8.out) hl).mono ?_
  rintro e w9 ⟨rfl, rfl⟩
  have hX8 := owns_on hX3 G38.out
  have hU8 := owns_on hU6 G68.out
  have k1 := run_string_shows (P := Tryd.prog) 30 5 9 Tryd.underlying30 Tryd.underlying5 Tryd.underlying9 (shows_of_owns hX8).2
  have k2 := run_string_shows (P := Tryd.prog) 30 5 9 Tryd.underlying30 Tryd.underlying5 Tryd.underlying9 (shows_of_owns hU8).2
  have hL8 := hL3.below G38.out
  obtain ⟨ax, cx, rfl⟩ := own_formK hX8
  obtain ⟨g2, hv2, _⟩ := id hL8
  subst hv2
  obtain ⟨xs3, q3⟩ := full_of_owns hX8
  obtain ⟨xs2, q2⟩ := hL8.full
  have hz9 : w.heap.size ≤ w1.heap.size := E1.out.size
  have hal : Below w9.heap.size w9 (w9.alloc (.cells #[.slice ax KX.length cx, .slice (some ⟨g2, 0, none⟩) bs.length (bs.length + 1)] 30)) := (Below.refl _ _).alloc (Nat.le_refl _) _
  have hmk := marked_cons ((q3.mono (show w.heap.size ≤ w2.heap.size by omega)).below hal) (marked_cons ((q2.mono hz9).below hal) (marked_nil0 _ _))
  have hro := World.ownsRow_lit (base := w.heap.size) (e := 30) (size := 1) w9 #[.slice ax KX.length cx, .slice (some ⟨g2, 0, none⟩) bs.length (bs.length + 1)] 2 E8.out.size (by unfold maxLen; omega) rfl
  have hap : Apart [.slice ax KX.length cx, .slice (some ⟨g2, 0, none⟩) bs.length (bs.length + 1)] := apart_cons (apart_cons apart_nil (fun g hg v hv => by cases hv)) (fun g hg v hv e => by
    simp at hv
    subst hv
    have h1 := (hltX g hg).1
    have h2 := (hlt2 g e).2
    omega)
  have HOW := hid (owned_keep w.heap.size w9.heap.size 2 [.slice ax KX.length cx, .slice (some ⟨g2, 0, none⟩) bs.length (bs.length + 1)] _ (by simp; have := E8.out.size; omega) hro hmk hap (by simp))
  have HNB : Hid (∀ k, w3.heap.size ≤ k → ∀ v ∈ [Value.slice ax KX.length cx, .slice (some ⟨g2, 0, none⟩) bs.length (bs.length + 1)], v.ownBlock ≠ some k) := hid (fun k hk v hv e => by
    simp only [List.mem_cons, List.not_mem_nil, or_false] at hv
    rcases hv with rfl | rfl
    · have := (hltX k e).2; omega
    · have := (hlt2 k e).2; omega)
  have HAL := hid hal
  clear q3 q2 hmk hro hap hX3 hU6 hX8 hU8 hL3 hL8 hal hltX hlt2
  go_wp2_with fail
  refine HOW.out.mono ?_
  rintro e wo ⟨rfl, hko⟩
  have f0 := cells3 ((hko.2 _ (HNB.out w4.heap.size (by omega))).trans ((HAL.out.block _ (by omega)).trans (HC5.out w9 G58.out)))
  have f1 := cells3 ((hko.2 _ (HNB.out w7.heap.size (by omega))).trans ((HAL.out.block _ (by omega)).trans (HC8.out w9 (Below.refl _ _))))
  have HF := hid ((E8.out.trans (HAL.out.mono E8.out.size)).trans hko.1)
  clear HOW hko k1 k2
  go_wp2
  go_ret
  exact ⟨by simp, HF.out⟩
end Go.Proofs.YtlcoeoilakobjaaDoor
