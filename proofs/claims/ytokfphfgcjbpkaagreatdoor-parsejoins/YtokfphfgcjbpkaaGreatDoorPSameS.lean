/- The document's comparisons of statements' parts, two copies of one. -/
import Derived.Test.YtokfphfgcjbpkaaGreatDoorPSameE
namespace Go.Proofs.YtokfphfgcjbpkaaGreatDoor
open Go.RowKit Go.Shelf
set_option linter.unusedVariables false
set_option linter.unusedSimpArgs false
set_option maxRecDepth 20000

/-- Where a slice's elements lie, in every later world. -/
theorem SlAt.opened {α : Type} {z : Nat} {El : (Nat → Prop) → World → α → List Value → Prop} {S : Nat → Prop} {w : World} {xs : List α} {v : Value} (hz : 0 < z) (h : SlAt z El S w xs v) (hne : xs ≠ []) :
    ∃ (b off c : Nat), v = .slice (some ⟨b, off, none⟩) xs.length c ∧ xs.length ≤ c ∧ c ≤ maxLen ∧ ∀ (j : Nat) (x : α), xs[j]? = some x → ∃ cs : List Value, El S w x cs ∧ ∀ Z, Below w.heap.size w Z → ∀ (i : Nat) (u : Value), cs[i]? = some u → Z.cell? ⟨b, off + j * z + i, none⟩ = some u := by
  obtain ⟨a, c, css, h1, h2, h3, h4, h5⟩ := h
  obtain ⟨b, off, rfl, hb, hc⟩ := h5 hne
  have hlt : b < w.heap.size := by
    cases xs with
    | nil => exact absurd rfl hne
    | cons x l =>
      cases css with
      | nil => have := h4.1; simp at this
      | cons cs css =>
        have := h4.2 0 x cs rfl rfl
        cases cs with
        | nil => have := this.1; simp at this; omega
        | cons u cs => exact World.block_lt_of_cell? w _ (hc 0 (u :: cs) rfl 0 u rfl)
  refine ⟨b, off, c, h1, h2, h3, fun j x hx => ?_⟩
  have hj : j < css.length := by rw [h4.1]; exact (List.getElem?_eq_some_iff.1 hx).1
  exact ⟨css[j], (h4.2 j x _ hx (List.getElem?_eq_getElem hj)).2, fun Z hZ i u hu => (hZ.cell (p := ⟨b, _, none⟩) hlt).trans (hc j _ (List.getElem?_eq_getElem hj) i u hu)⟩

theorem Tryz.fieldsCol : Tryz.prog.underlying 62 = some (.struct (Tryz.prog.fieldsOf 62)) := by kernel_rfl
theorem Tryz.stoodCol : Tryz.prog.stoodInHeld 62 = false := by kernel_rfl
theorem Tryz.eqGuardCol : Tryz.prog.eqGuardType Tryz.prog.depth 62 = false := by kernel_rfl

theorem eqf_col (e : Nat) (A B : Array Value) (a1 a2 a3 a4 b1 b2 b3 b4 : Value) (p q r t : Bool) (w : World)
    (h1 : (Go.part 9 A 0).run Tryz.prog w = .ok a1 w) (h2 : (Go.part 3 A 1).run Tryz.prog w = .ok a2 w) (h3 : (Go.part 4 A 2).run Tryz.prog w = .ok a3 w) (h4 : (Go.part 4 A 3).run Tryz.prog w = .ok a4 w)
    (g1 : (Go.part 9 B 0).run Tryz.prog w = .ok b1 w) (g2 : (Go.part 3 B 1).run Tryz.prog w = .ok b2 w) (g3 : (Go.part 4 B 2).run Tryz.prog w = .ok b3 w) (g4 : (Go.part 4 B 3).run Tryz.prog w = .ok b4 w)
    (e1 : (Op.equalIn e 9 a1 b1).run Tryz.prog w = .ok p w) (e2 : (Op.equalIn e 3 a2 b2).run Tryz.prog w = .ok q w) (e3 : (Op.equalIn e 4 a3 b3).run Tryz.prog w = .ok r w) (e4 : (Op.equalIn e 4 a4 b4).run Tryz.prog w = .ok t w) :
    (Op.eqFields e A B (Tryz.prog.fieldsOf 62).toList).run Tryz.prog w = .ok (p && (q && (r && t))) w := by
  simp only [Program.fieldsOf, Tryz.underlying62]
  cases p <;> cases q <;> cases r <;> cases t <;> simp [Op.eqFields, h1, h2, h3, h4, g1, g2, g3, g4, e1, e2, e3, e4]

theorem eq_col_at (d : Nat) (s : ByteArray) (k : Int) (x y : Bool) (w : World) : (Op.equalIn (d + 1 + 1) 62 (.agg #[.string s, .int .i64 k, .bool x, .bool y]) (.agg #[.string s, .int .i64 k, .bool x, .bool y])).run Tryz.prog w = .ok (s.toList == s.toList && (k == k && (x == x && y == y))) w := by
  rw [run_equalIn_struct (P := Tryz.prog) w (d + 1) 62 _ _ Tryz.fieldsCol Tryz.stoodCol]
  exact eqf_col _ _ _ (.string s) (.int .i64 k) (.bool x) (.bool y) (.string s) (.int .i64 k) (.bool x) (.bool y) _ _ _ _ w (by simp [Go.part, go_sem]) (by simp [Go.part, go_sem]) (by simp [Go.part, go_sem]) (by simp [Go.part, go_sem]) (by simp [Go.part, go_sem]) (by simp [Go.part, go_sem]) (by simp [Go.part, go_sem]) (by simp [Go.part, go_sem])
    (run_equalIn_string (P := Tryz.prog) w d 9 s s Tryz.underlying9) (run_equalIn_int (P := Tryz.prog) w d 3 .i64 .i64 k k Tryz.underlying3) (run_equalIn_bool (P := Tryz.prog) w d 4 x x Tryz.underlying4) (run_equalIn_bool (P := Tryz.prog) w d 4 y y Tryz.underlying4)

theorem run_nec (s : ByteArray) (k : Int) (x y : Bool) (w : World) : (binOp .neq 62 (.agg #[.string s, .int .i64 k, .bool x, .bool y]) (.agg #[.string s, .int .i64 k, .bool x, .bool y])).run Tryz.prog w = .ok (.bool false) w := by
  rw [run_neq_struct, show (10000 : Nat) = 9998 + 1 + 1 from rfl, eq_col_at]
  simp

set_option maxHeartbeats 2000000 in
theorem columns_any (S T : Nat → Prop) (v u : Value) (xs : List Co) (w : World) (hv : SlAt 4 ColE S w xs v) (hu : SlAt 4 ColE T w xs u) :
    Calls Tryz.prog 58 #[v, u] w fun e w' => e = .returned (.bool true) ∧ Below w.heap.size w w' := by
  have hgd := Tryz.eqGuardCol
  by_cases hne : xs = []
  · subst hne
    obtain ⟨a, c, rfl⟩ := hv.form
    obtain ⟨a', c', rfl⟩ := hu.form
    clear hv hu
    go_enter Tryz.func58, Tryz.ntmps58
    go_wp2_with fail
    go_rounds 1
    go_ret
    exact ⟨rfl, Below.refl _ _⟩
  · obtain ⟨b, off, c, rfl, hlc, hc, hel⟩ := hv.opened (by decide) hne
    obtain ⟨b', off', c', rfl, hlc', hc', hel'⟩ := hu.opened (by decide) hne
    unfold maxLen at hc hc'
    have HA := hid hel
    have HA' := hid hel'
    clear hv hu hel hel'
    go_enter Tryz.func58, Tryz.ntmps58
    go_wp2_with fail
    go_loopw [5] (fun i wr => ∃ k : Nat, k ≤ xs.length ∧ i = .int .i64 k ∧ Below w.heap.size w wr) (fun i _ => xs.length - (intOf i).toNat)
    case atStart => exact ⟨0, Nat.zero_le _, rfl, Below.refl _ _⟩
    case round =>
      obtain ⟨j, hj, rfl, hbel⟩ := hrel
      by_cases hlt : j < xs.length
      · obtain ⟨x, hx⟩ : ∃ x, xs[j]? = some x := ⟨_, List.getElem?_eq_getElem hlt⟩
        have hlt' : ((j : Int) < (xs.length : Int)) := by omega
        obtain ⟨cs, hE, hcl⟩ := HA.out j x hx
        obtain ⟨cs', hE', hcl'⟩ := HA'.out j x hx
        obtain ⟨nm, k, nn, uq⟩ := x
        have hE : cs = [.string (str8 nm), .int .i64 k, .bool nn, .bool uq] := hE
        have hE' : cs' = [.string (str8 nm), .int .i64 k, .bool nn, .bool uq] := hE'
        subst hE hE'
        have p0 := hcl wr hbel 0 _ rfl
        have p1 := hcl wr hbel 1 _ rfl
        have p2 := hcl wr hbel 2 _ rfl
        have p3 := hcl wr hbel 3 _ rfl
        rw [Nat.add_zero] at p0
        have q0 := hcl' wr hbel 0 _ rfl
        have q1 := hcl' wr hbel 1 _ rfl
        have q2 := hcl' wr hbel 2 _ rfl
        have q3 := hcl' wr hbel 3 _ rfl
        rw [Nat.add_zero] at q0
        have heq := run_nec (str8 nm) k nn uq
        have HBR := hid hbel
        clear hbel hx hcl hcl'
        go_wp2_with fail
        go_quiet (fail)
        go_wp2
        go_roundw
        case rel => exact ⟨j + 1, by omega, by go_num, by first | exact below_drewN HBR.out nq | exact HBR.out⟩
        case measure => simp [intOf]; omega
      · have hlt' : ¬ ((j : Int) < (xs.length : Int)) := by omega
        have HBR := hid hbel
        clear hbel
        go_wp2
        go_ret
        exact ⟨rfl, HBR.out⟩

set_option maxHeartbeats 2000000 in
theorem vals_any (S T : Nat → Prop) (v u : Value) (xs : List Vl) (w : World) (hv : SlAt 3 VlE S w xs v) (hu : SlAt 3 VlE T w xs u) :
    Calls Tryz.prog 103 #[v, u] w fun e w' => e = .returned (.bool true) ∧ Below w.heap.size w w' := by
  have hgd := Tryz.eqGuardVal
  by_cases hne : xs = []
  · subst hne
    obtain ⟨a, c, rfl⟩ := hv.form
    obtain ⟨a', c', rfl⟩ := hu.form
    clear hv hu
    go_enter Tryz.func103, Tryz.ntmps103
    go_wp2_with fail
    go_rounds 1
    go_ret
    exact ⟨rfl, Below.refl _ _⟩
  · obtain ⟨b, off, c, rfl, hlc, hc, hel⟩ := hv.opened (by decide) hne
    obtain ⟨b', off', c', rfl, hlc', hc', hel'⟩ := hu.opened (by decide) hne
    unfold maxLen at hc hc'
    have HA := hid hel
    have HA' := hid hel'
    clear hv hu hel hel'
    go_enter Tryz.func103, Tryz.ntmps103
    go_wp2_with fail
    go_loopw [5] (fun i wr => ∃ k : Nat, k ≤ xs.length ∧ i = .int .i64 k ∧ Below w.heap.size w wr) (fun i _ => xs.length - (intOf i).toNat)
    case atStart => exact ⟨0, Nat.zero_le _, rfl, Below.refl _ _⟩
    case round =>
      obtain ⟨j, hj, rfl, hbel⟩ := hrel
      by_cases hlt : j < xs.length
      · obtain ⟨x, hx⟩ : ∃ x, xs[j]? = some x := ⟨_, List.getElem?_eq_getElem hlt⟩
        have hlt' : ((j : Int) < (xs.length : Int)) := by omega
        obtain ⟨cs, hE, hcl⟩ := HA.out j x hx
        obtain ⟨cs', hE', hcl'⟩ := HA'.out j x hx
        obtain ⟨xk, xn, xt⟩ := x
        have hE : cs = [.int .i64 xk, .int .i64 xn, .string (str8 xt)] := hE
        have hE' : cs' = [.int .i64 xk, .int .i64 xn, .string (str8 xt)] := hE'
        subst hE hE'
        have p0 := hcl wr hbel 0 _ rfl
        have p1 := hcl wr hbel 1 _ rfl
        have p2 := hcl wr hbel 2 _ rfl
        rw [Nat.add_zero] at p0
        have q0 := hcl' wr hbel 0 _ rfl
        have q1 := hcl' wr hbel 1 _ rfl
        have q2 := hcl' wr hbel 2 _ rfl
        rw [Nat.add_zero] at q0
        have heq : ∀ w, (binOp .neq 37 (.agg #[.int .i64 xk, .int .i64 xn, .string (str8 xt)]) (.agg #[.int .i64 xk, .int .i64 xn, .string (str8 xt)])).run Tryz.prog w = .ok (.bool false) w := fun w => by
          have := run_nev ⟨xk, xn, xt⟩ ⟨xk, xn, xt⟩ w
          rw [eqv_iff.2 rfl] at this
          exact this
        have HBR := hid hbel
        clear hbel hx hcl hcl'
        go_wp2_with fail
        go_quiet (fail)
        go_wp2
        go_roundw
        case rel => exact ⟨j + 1, by omega, by go_num, by first | exact below_drewN HBR.out nq | exact HBR.out⟩
        case measure => simp [intOf]; omega
      · have hlt' : ¬ ((j : Int) < (xs.length : Int)) := by omega
        have HBR := hid hbel
        clear hbel
        go_wp2
        go_ret
        exact ⟨rfl, HBR.out⟩

set_option maxHeartbeats 2000000 in
theorem sameRows_any (S T : Nat → Prop) (v u : Value) (xs : List (List Vl)) (w : World) (hv : SlAt 1 VsE S w xs v) (hu : SlAt 1 VsE T w xs u) :
    Calls Tryz.prog 59 #[v, u] w fun e w' => e = .returned (.bool true) ∧ Below w.heap.size w w' := by
  by_cases hne : xs = []
  · subst hne
    obtain ⟨a, c, rfl⟩ := hv.form
    obtain ⟨a', c', rfl⟩ := hu.form
    clear hv hu
    go_enter Tryz.func59, Tryz.ntmps59
    go_wp2_with fail
    go_rounds 1
    go_ret
    exact ⟨rfl, Below.refl _ _⟩
  · obtain ⟨b, off, c, rfl, hlc, hc, hel⟩ := hv.opened (by decide) hne
    obtain ⟨b', off', c', rfl, hlc', hc', hel'⟩ := hu.opened (by decide) hne
    unfold maxLen at hc hc'
    have HA := hid hel
    have HA' := hid hel'
    clear hv hu hel hel'
    go_enter Tryz.func59, Tryz.ntmps59
    go_wp2_with fail
    go_loopw [5, 6] (fun i _ wr => ∃ k : Nat, k ≤ xs.length ∧ i = .int .i64 k ∧ Below w.heap.size w wr) (fun i _ _ => xs.length - (intOf i).toNat)
    case atStart => exact ⟨0, Nat.zero_le _, rfl, Below.refl _ _⟩
    case round =>
      obtain ⟨j, hj, rfl, hbel⟩ := hrel
      by_cases hlt : j < xs.length
      · obtain ⟨x, hx⟩ : ∃ x, xs[j]? = some x := ⟨_, List.getElem?_eq_getElem hlt⟩
        have hlt' : ((j : Int) < (xs.length : Int)) := by omega
        obtain ⟨cs, hE, hcl⟩ := HA.out j x hx
        obtain ⟨cs', hE', hcl'⟩ := HA'.out j x hx
        obtain ⟨aa, nn, cc, rfl, hsl⟩ := hE
        obtain ⟨aa', nn', cc', rfl, hsl'⟩ := hE'
        have p0 := hcl wr hbel 0 _ rfl
        rw [Nat.add_zero] at p0
        have q0 := hcl' wr hbel 0 _ rfl
        rw [Nat.add_zero] at q0
        rw [Nat.mul_one] at p0 q0
        have hcall := vals_any S T _ _ x wr.drew (hsl.to (by decide) (R := fun _ => False) (Spares.of_new hbel.drew) (fun b hb _ => ⟨id, hb⟩) (fun _ _ e => e)) (hsl'.to (by decide) (R := fun _ => False) (Spares.of_new hbel.drew) (fun b hb _ => ⟨id, hb⟩) (fun _ _ e => e))
        clear hsl hsl'
        have HBR := hid hbel
        have HCA := hid hcall
        clear hcall hbel hx hcl hcl'
        go_wp2_with fail
        go_region_with (first
          | (go_at_call 103; refine HCA.out.mono ?_
             rintro e w1 ⟨rfl, hb1⟩
             have HB1 : Hid (Below w.heap.size w w1) := hid (HBR.out.drew.trans (hb1.mono HBR.out.size))
             clear hb1)
          | fail)
        all_goals go_wp2
        all_goals exact ⟨⟨j + 1, by omega, by go_num, HB1.out⟩, by simp [intOf]; omega⟩
      · have hlt' : ¬ ((j : Int) < (xs.length : Int)) := by omega
        have HBR := hid hbel
        clear hbel
        go_wp2
        go_ret
        exact ⟨rfl, HBR.out⟩

set_option maxHeartbeats 2000000 in
theorem sets_any (S T : Nat → Prop) (v u : Value) (xs : List Se) (w : World) (hv : SlAt 9 SeE S w xs v) (hu : SlAt 9 SeE T w xs u) :
    Calls Tryz.prog 60 #[v, u] w fun e w' => e = .returned (.bool true) ∧ Below w.heap.size w w' := by
  by_cases hne : xs = []
  · subst hne
    obtain ⟨a, c, rfl⟩ := hv.form
    obtain ⟨a', c', rfl⟩ := hu.form
    clear hv hu
    go_enter Tryz.func60, Tryz.ntmps60
    go_wp2_with fail
    go_rounds 1
    go_ret
    exact ⟨rfl, Below.refl _ _⟩
  · obtain ⟨b, off, c, rfl, hlc, hc, hel⟩ := hv.opened (by decide) hne
    obtain ⟨b', off', c', rfl, hlc', hc', hel'⟩ := hu.opened (by decide) hne
    unfold maxLen at hc hc'
    have HA := hid hel
    have HA' := hid hel'
    clear hv hu hel hel'
    go_enter Tryz.func60, Tryz.ntmps60
    go_wp2_with fail
    go_loopw [5, 6] (fun i _ wr => ∃ k : Nat, k ≤ xs.length ∧ i = .int .i64 k ∧ Below w.heap.size w wr) (fun i _ _ => xs.length - (intOf i).toNat)
    case atStart => exact ⟨0, Nat.zero_le _, rfl, Below.refl _ _⟩
    case round =>
      obtain ⟨j, hj, rfl, hbel⟩ := hrel
      by_cases hlt : j < xs.length
      · obtain ⟨x, hx⟩ : ∃ x, xs[j]? = some x := ⟨_, List.getElem?_eq_getElem hlt⟩
        have hlt' : ((j : Int) < (xs.length : Int)) := by omega
        obtain ⟨cs, hE, hcl⟩ := HA.out j x hx
        obtain ⟨cs', hE', hcl'⟩ := HA'.out j x hx
        obtain ⟨sn, se⟩ := x
        obtain ⟨k, op, tb, nm, vk, vn, vs, ys, aa, nn, cc, hxe, rfl, har⟩ := hE
        obtain ⟨k', op', tb', nm', vk', vn', vs', ys', aa', nn', cc', hxe', rfl, har'⟩ := hE'
        dsimp only at hxe hxe' hcl hcl'
        subst hxe
        simp only [Ex.mk.injEq, Vl.mk.injEq] at hxe'
        obtain ⟨rfl, rfl, rfl, rfl, ⟨rfl, rfl, rfl⟩, rfl⟩ := hxe'
        have p0 := hcl wr hbel 0 _ rfl
        have p1 := hcl wr hbel 1 _ rfl
        have p2 := hcl wr hbel 2 _ rfl
        have p3 := hcl wr hbel 3 _ rfl
        have p4 := hcl wr hbel 4 _ rfl
        have p5 := hcl wr hbel 5 _ rfl
        have p6 := hcl wr hbel 6 _ rfl
        have p7 := hcl wr hbel 7 _ rfl
        have p8 := hcl wr hbel 8 _ rfl
        rw [Nat.add_zero] at p0
        have q0 := hcl' wr hbel 0 _ rfl
        have q1 := hcl' wr hbel 1 _ rfl
        have q2 := hcl' wr hbel 2 _ rfl
        have q3 := hcl' wr hbel 3 _ rfl
        have q4 := hcl' wr hbel 4 _ rfl
        have q5 := hcl' wr hbel 5 _ rfl
        have q6 := hcl' wr hbel 6 _ rfl
        have q7 := hcl' wr hbel 7 _ rfl
        have q8 := hcl' wr hbel 8 _ rfl
        rw [Nat.add_zero] at q0
        have HC1 := hid (fun Z hZ => by have := hcl Z hZ 0 _ rfl; rw [Nat.add_zero] at this; exact this)
        have HC2 := hid (fun Z hZ => by have := hcl' Z hZ 0 _ rfl; rw [Nat.add_zero] at this; exact this)
        have e1 : ((str8 sn).toList != (str8 sn).toList) = false := by simp
        have hcall := sameExpr_of k op vk vn tb nm vs aa aa' nn nn' cc cc' wr.drew (fun V hV => sameExprs_any S T w ys _ har V _ (hbel.drew.trans (hV.mono hbel.size)) (har'.to (R := fun _ => False) (Spares.of_new (hbel.drew.trans (hV.mono hbel.size))) (fun b hb _ => ⟨id, hb⟩)))
        clear har har'
        have HBR := hid hbel
        have HCA := hid hcall
        clear hcall hbel hx hcl hcl'
        go_wp2_with fail
        go_region_with (first
          | (go_at_call 16; refine HCA.out.mono ?_
             rintro e w1 ⟨rfl, hb1⟩
             have HB1 : Hid (Below w.heap.size w w1) := hid (HBR.out.drew.trans (hb1.mono HBR.out.size))
             clear hb1)
          | fail)
        all_goals
          have r0 := HC1.out w1 HB1.out
          have s0 := HC2.out w1 HB1.out
          go_wp2_with fail
          go_quiet (fail)
          go_wp2
          exact ⟨⟨j + 1, by omega, by go_num, by first | exact below_drewN HB1.out nq | exact HB1.out⟩, by simp [intOf]; omega⟩
      · have hlt' : ¬ ((j : Int) < (xs.length : Int)) := by omega
        have HBR := hid hbel
        clear hbel
        go_wp2
        go_ret
        exact ⟨rfl, HBR.out⟩

set_option maxHeartbeats 2000000 in
theorem items_any (S T : Nat → Prop) (v u : Value) (xs : List It) (w : World) (hv : SlAt 2 ItE S w xs v) (hu : SlAt 2 ItE T w xs u) :
    Calls Tryz.prog 61 #[v, u] w fun e w' => e = .returned (.bool true) ∧ Below w.heap.size w w' := by
  by_cases hne : xs = []
  · subst hne
    obtain ⟨a, c, rfl⟩ := hv.form
    obtain ⟨a', c', rfl⟩ := hu.form
    clear hv hu
    go_enter Tryz.func61, Tryz.ntmps61
    go_wp2_with fail
    go_rounds 1
    go_ret
    exact ⟨rfl, Below.refl _ _⟩
  · obtain ⟨b, off, c, rfl, hlc, hc, hel⟩ := hv.opened (by decide) hne
    obtain ⟨b', off', c', rfl, hlc', hc', hel'⟩ := hu.opened (by decide) hne
    unfold maxLen at hc hc'
    have HA := hid hel
    have HA' := hid hel'
    clear hv hu hel hel'
    go_enter Tryz.func61, Tryz.ntmps61
    go_wp2_with fail
    go_loopw [5, 6] (fun i _ wr => ∃ k : Nat, k ≤ xs.length ∧ i = .int .i64 k ∧ Below w.heap.size w wr) (fun i _ _ => xs.length - (intOf i).toNat)
    case atStart => exact ⟨0, Nat.zero_le _, rfl, Below.refl _ _⟩
    case round =>
      obtain ⟨j, hj, rfl, hbel⟩ := hrel
      by_cases hlt : j < xs.length
      · obtain ⟨x, hx⟩ : ∃ x, xs[j]? = some x := ⟨_, List.getElem?_eq_getElem hlt⟩
        have hlt' : ((j : Int) < (xs.length : Int)) := by omega
        obtain ⟨cs, hE, hcl⟩ := HA.out j x hx
        obtain ⟨cs', hE', hcl'⟩ := HA'.out j x hx
        obtain ⟨ik, ys⟩ := x
        obtain ⟨aa, nn, cc, rfl, har⟩ := hE
        obtain ⟨aa', nn', cc', rfl, har'⟩ := hE'
        dsimp only at har har' hcl hcl'
        have p0 := hcl wr hbel 0 _ rfl
        have p1 := hcl wr hbel 1 _ rfl
        rw [Nat.add_zero] at p0
        have q0 := hcl' wr hbel 0 _ rfl
        have q1 := hcl' wr hbel 1 _ rfl
        rw [Nat.add_zero] at q0
        have HC1 := hid (fun Z hZ => by have := hcl Z hZ 0 _ rfl; rw [Nat.add_zero] at this; exact this)
        have HC2 := hid (fun Z hZ => by have := hcl' Z hZ 0 _ rfl; rw [Nat.add_zero] at this; exact this)
        have hcall := sameExprs_any S T w ys _ har wr.drew _ hbel.drew (har'.to (R := fun _ => False) (Spares.of_new hbel.drew) (fun b hb _ => ⟨id, hb⟩))
        clear har har'
        have HBR := hid hbel
        have HCA := hid hcall
        clear hcall hbel hx hcl hcl'
        go_wp2_with fail
        go_region_with (first
          | (go_at_call 35; refine HCA.out.mono ?_
             rintro e w1 ⟨rfl, hb1⟩
             have HB1 : Hid (Below w.heap.size w w1) := hid (HBR.out.drew.trans (hb1.mono HBR.out.size))
             clear hb1)
          | fail)
        all_goals
          have r0 := HC1.out w1 HB1.out
          have s0 := HC2.out w1 HB1.out
          go_wp2_with fail
          go_quiet (fail)
          go_wp2
          exact ⟨⟨j + 1, by omega, by go_num, by first | exact below_drewN HB1.out nq | exact HB1.out⟩, by simp [intOf]; omega⟩
      · have hlt' : ¬ ((j : Int) < (xs.length : Int)) := by omega
        have HBR := hid hbel
        clear hbel
        go_wp2
        go_ret
        exact ⟨rfl, HBR.out⟩

end Go.Proofs.YtokfphfgcjbpkaaGreatDoor
