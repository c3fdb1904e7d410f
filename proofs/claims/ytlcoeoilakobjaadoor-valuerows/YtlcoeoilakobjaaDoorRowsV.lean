/- ValueRows: whatever the values and the bytes. -/
import Derived.Test.YtlcoeoilakobjaaDoorKeysV
import Derived.Test.YtlcoeoilakobjaaDoorSameV
namespace Go.Proofs.YtlcoeoilakobjaaDoor
open Go.RowKit
set_option linter.unusedVariables false
set_option linter.unusedSimpArgs false
set_option maxRecDepth 20000

theorem vcs_one (xs : List Vl) : ∀ u ∈ vcs xs, u.oneCell' = true := by
  intro u hu
  obtain ⟨x, _, hx⟩ := List.mem_flatMap.1 hu
  simp only [vc, List.mem_cons, List.not_mem_nil, or_false] at hx
  rcases hx with rfl | rfl | rfl <;> rfl

theorem vals_cells {B : Nat} {w : World} {ad : Addr} {l c : Nat} {ys : List Vl} (h : Vals B w (.slice (some ad) l c) ys) : l = ys.length ∧ ∀ j u, (vcs ys)[j]? = some u → w.cell? (ad.add j) = some u := by
  obtain ⟨a, c', hv, h1, h2, hn, h3⟩ := h
  simp only [Value.slice.injEq] at hv
  obtain ⟨rfl, hl, rfl⟩ := hv
  refine ⟨hl, fun j u hu => ?_⟩
  have hj : j < ys.length * 3 := by
    have := (List.getElem?_eq_some_iff.1 hu).1
    rwa [vcs_length] at this
  obtain ⟨b, off, ha, _, hc⟩ := h3 (by intro e; rw [e] at hj; simp at hj)
  simp only [Option.some.injEq] at ha
  subst ha
  have hq : j / 3 < ys.length := by omega
  obtain ⟨c0, c1, c2⟩ := hc (j / 3) ys[j / 3] (List.getElem?_eq_getElem hq)
  obtain ⟨e0, e1, e2⟩ := vcs_at ys (j / 3) ys[j / 3] (List.getElem?_eq_getElem hq)
  rw [Addr.add_lit]
  have hm : j % 3 = 0 ∨ j % 3 = 1 ∨ j % 3 = 2 := by omega
  rcases hm with hm | hm | hm
  · have ej : j = j / 3 * 3 := by omega
    rw [ej] at hu
    rw [show off + j = off + j / 3 * 3 by omega, c0, ← hu, e0]
  · have ej : j = j / 3 * 3 + 1 := by omega
    rw [ej] at hu
    rw [show off + j = off + j / 3 * 3 + 1 by omega, c1, ← hu, e1]
  · have ej : j = j / 3 * 3 + 2 := by omega
    rw [ej] at hu
    rw [show off + j = off + j / 3 * 3 + 2 by omega, c2, ← hu, e2]

/-- append(dst, src...): dst the call's own, src whatever slice of values that is shown. -/
theorem wpList_append_vals {P : Program} (w : World) {ops : Array Oper} {rest : List Oper} {o : Oper} {a : Act} {Q : Exit → Act → World → Prop} (hgd : o.guard = none) (s x : Operand) (t : TypeId)
    (ho : o.op = .call { callee := .builtin .append, args := #[s, x], argTypes := #[t, t] })
    (base : Nat) (e : TypeId) (i : TypeInfo) (z : Value) (ht : P.underlying t = some (.slice e)) (hi : P.info? e = some i) (hz : i.zero = some z) (hzc : z.cells.size = 3)
    (hsize : i.size = 3) (hby : i.bytes = 32)
    (v : Value) (n : Nat) (xs : List Value) (hs : a.eval s = v) (hown : w.ownsRow base e 3 v n xs)
    (B : Nat) (vx : Value) (ys : List Vl) (hx : a.eval x = vx) (hsh : Vals B w vx ys)
    (hbytes : (n + ys.length) * 32 ≤ 140737488355328) (hbase : base ≤ w.heap.size)
    (h : ∀ v' w', w'.ownsRow base e 3 v' (n + ys.length) (xs ++ vcs ys) → w.grownBy w' v.ownBlock → wpList P ops Q rest (a.put o.dst v') w') : wpList P ops Q (o :: rest) a w := by
  have hsh' := hsh
  obtain ⟨ao, c, rfl, h1, h2, hn, h3⟩ := hsh
  cases ao with
  | none =>
    have hc := hn rfl
    subst hc
    have hb : ys = [] := List.eq_nil_of_length_eq_zero (by omega)
    subst hb
    refine wpList_append_own_none hgd s x t ho base e i 3 ht hi v n xs hs hown hx ?_
    exact h v w (by simpa [vcs] using hown) (World.grownBy.refl w _)
  | some ad =>
    refine wpList_append_own w hgd s x t ho base e i z 3 32 ht hi hz hsize hby hzc (by decide) v n xs hs hown ad ys.length c (vcs ys) hx (vcs_length ys) (vals_cells hsh').2 (vcs_one ys) (by unfold maxLen; omega) (by omega) hbase ?_
    intro v' w' ho' hg hnil
    exact h v' w' ho' hg

set_option maxHeartbeats 1000000 in
theorem rowsV_law (v : Value) (xs : List Vl) (vb : Value) (bs : List UInt8) (w : World) (hv : Vals w.heap.size w v xs) (ho : ∀ y ∈ xs, OkV y) (hx : xs.length * 32 ≤ 140737488351232) (hb : Shows w.heap.size w vb bs) (hl : bs.length ≤ 140737488351232) (hT : TabV w) :
    Calls Tryd.prog 5 #[v, vb] w fun e w' => e = .returned (.bool true) ∧ Below w.heap.size w w' := by
  obtain ⟨i0, hi, hz0, hz1, hz2⟩ := info_parts Tryd.infoVal
  obtain ⟨av, cv, rfl, hv1, hv2, _⟩ := id hv
  obtain ⟨ab, cb, rfl, hb1, hb2, _⟩ := id hb
  have HV := hid hv
  have HO := hid ho
  have HS := hid hb
  have HSM := hid (small7_any w hT)
  have HL : Hid (∀ x ∈ xs, x.s.length ≤ 9223372036854775807) := hid (fun x h => by have := (ho x h).2.2; omega)
  unfold maxLen at hv2 hb2
  clear hv ho hb hT
  obtain ⟨er, K, hRV⟩ : ∃ er K, rowV xs = (er, K) := ⟨_, _, rfl⟩
  obtain ⟨et, ys, hTR⟩ : ∃ et ys, trV 8 bs = (et, ys) := ⟨_, _, rfl⟩
  have HRV := hid hRV
  have HTR := hid hTR
  clear hRV hTR
  go_enter Tryd.func5, Tryd.ntmps5
  go_wp2_with fail
  refine HSM.out.mono ?_
  rintro e w1 ⟨rfl, d1⟩
  have E1 := hid d1
  have z1 := d1.size
  have hv1' := HV.out.below d1
  have hown0 := World.ownsRow_lit (base := w.heap.size) (e := 23) (size := 3) w1 #[] 0 z1 (by unfold maxLen; omega) rfl
  have e1' := d1.alloc z1 (.cells #[] 23)
  have hva := HV.out.below e1'
  have E1' := hid e1'
  have z1' := e1'.size
  clear d1 HSM e1'
  go_wp2_with (first | (at_builtin; refine wpList_append_vals _ rfl (.tmp 18) (.tmp 19) 40 rfl w.heap.size 23 i0 (.agg #[.int .i64 0, .int .i64 0, .string ⟨#[]⟩]) Tryd.underlying40 hi hz0 rfl hz1 hz2 _ _ _ rfl hown0 w.heap.size _ xs rfl hva (by omega) z1' ?_; intro v2 w2 hown2 hg2) | fail)
  have E2 : Hid (Below w.heap.size w w2) := hid (E1'.out.grown hg2 z1' (fun q hq => (hown0.lt q hq).1))
  have hown2 : w2.ownsRow w.heap.size 23 3 v2 xs.length (vcs xs) := by simpa using hown2
  clear hg2 hown0 hva E1' z1' hv1' E1 z1
  refine (lent_any w.heap.size _ bs w2 E2.out.size (HS.out.below E2.out) hl).mono ?_
  rintro e w3 ⟨vL, rfl, hL3, g3⟩
  have E3 : Hid (Below w.heap.size w w3) := hid (E2.out.trans (g3.mono E2.out.size))
  have hO3 := owns_on hown2 g3
  clear g3 hown2
  go_wp2_with fail
  refine (vrow_any w3.heap.size v2 xs w3 (Nat.le_refl _) (vals_of_owns hO3).2 HL.out).mono ?_
  rw [HRV.out]
  rintro e w4 ⟨vx, rfl, hX4, g4⟩
  have E4 : Hid (Below w.heap.size w w4) := hid (E3.out.trans (g4.mono E3.out.size))
  have hO4 := owns_on hO3 g4
  have hL4 := hL3.below g4
  clear g4 hO3 hL3
  go_wp2_with fail
  refine (vtakeRow_any w4.heap.size vL bs w4 (Nat.le_refl _) (hL4.shows (by unfold maxLen; omega)) hl).mono ?_
  rw [HTR.out]
  rintro e w5 ⟨vy, rfl, hY5, g5⟩
  have E5 : Hid (Below w.heap.size w w5) := hid (E4.out.trans (g5.mono E4.out.size))
  have hO5 := owns_on hO4 g5
  have hX5 := owns_on hX4 g5
  have hL5 := hL4.below g5
  clear g5 hO4 hX4 hL4
  go_wp2_with fail
  refine (drow_any w.heap.size _ xs w5 E5.out.size (HV.out.below E5.out) HO.out).mono ?_
  rw [HRV.out]
  rintro e w6 ⟨vu, rfl, hU6, g6⟩
  have E6 : Hid (Below w.heap.size w w6) := hid (E5.out.trans (g6.mono E5.out.size))
  have hO6 := owns_on hO5 g6
  have hX6 := owns_on hX5 g6
  have hY6 := owns_on hY5 g6
  have hL6 := hL5.below g6
  clear g6 hO5 hX5 hY5 hL5
  go_wp2_with fail
  refine (dtakeRow_any w.heap.size _ bs w6 E6.out.size (HS.out.below E6.out) hl).mono ?_
  rw [HTR.out]
  rintro e w7 ⟨vw, rfl, hW7, g7⟩
  have E7 : Hid (Below w.heap.size w w7) := hid (E6.out.trans (g7.mono E6.out.size))
  have hO7 := owns_on hO6 g7
  have hX7 := owns_on hX6 g7
  have hY7 := owns_on hY6 g7
  have hU7 := owns_on hU6 g7
  have hL7 := hL6.below g7
  clear g7 hO6 hX6 hY6 hU6 hL6
  go_wp2_with fail
  refine (same_any w7.heap.size v2 _ xs w7 (vals_of_owns hO7).2 ((HV.out.below E7.out).mono E7.out.size)).mono ?_
  rintro e w8 ⟨rfl, g8⟩
  have E8 : Hid (Below w.heap.size w w8) := hid (E7.out.trans (g8.mono E7.out.size))
  have hX8 := owns_on hX7 g8
  have hY8 := owns_on hY7 g8
  have hU8 := owns_on hU7 g8
  have hW8 := owns_on hW7 g8
  have hL8 := hL7.below g8
  clear g8 hO7 hX7 hY7 hU7 hW7 hL7
  go_wp2_with fail
  refine (kept_any w2.heap.size w.heap.size vL _ bs w8 hL8 (HS.out.below E8.out) hl).mono ?_
  rintro e w9 ⟨rfl, rfl⟩
  have k1 := run_string_shows (P := Tryd.prog) 30 5 9 Tryd.underlying30 Tryd.underlying5 Tryd.underlying9 (shows_of_owns hX8).2
  have k2 := run_string_shows (P := Tryd.prog) 30 5 9 Tryd.underlying30 Tryd.underlying5 Tryd.underlying9 (shows_of_owns hU8).2
  have HSA := hid (same_any w9.heap.size vy vw ys w9 (vals_of_owns hY8).2 (vals_of_owns hW8).2)
  clear hX8 hY8 hU8 hW8 hL8
  go_wp2_with fail
  refine HSA.out.mono ?_
  rintro e w10 ⟨rfl, g10⟩
  have HF := hid (E8.out.trans (g10.mono E8.out.size))
  clear g10 HSA k1 k2
  go_wp2
  go_ret
  exact ⟨by simp, HF.out⟩
end Go.Proofs.YtlcoeoilakobjaaDoor
