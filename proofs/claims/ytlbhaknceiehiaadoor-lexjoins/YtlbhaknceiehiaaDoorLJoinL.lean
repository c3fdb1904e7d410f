/- LexJoins: two sources joined have the tokens of both. -/
import Derived.Test.YtlbhaknceiehiaaDoorLBackL
namespace Go.Proofs.YtlbhaknceiehiaaDoor
open Go.RowKit Go.Shelf
set_option linter.unusedVariables false
set_option linter.unusedSimpArgs false
set_option maxRecDepth 20000

theorem toks_place : ∀ (f : Nat) (s : List UInt8) (at' : Nat), (toks f s at').1 ≠ 0 → (at' : Int) ≤ (toks f s at').2.1 ∧ (toks f s at').2.1 ≤ (at' : Int) + s.length
  | 0, s, at', h => by simp [toks] at h
  | f + 1, s, at', h => by
    have hle := skip_le s false
    by_cases hs : s.length ≤ skip false s
    · rw [toks_end hs] at h; simp at h
    · obtain ⟨⟨e, t, n⟩, hc⟩ : ∃ x, cutT (s.drop (skip false s)) = x := ⟨_, rfl⟩
      by_cases he : e = 0
      · subst he
        have hcl := cut_local hc
        rw [toks_one (by omega) hc] at h ⊢
        obtain ⟨h1, h2⟩ := conT_err h
        rw [h1]
        have ih := toks_place f _ _ h2
        rw [List.length_drop, List.length_drop] at ih
        rw [List.length_drop] at hcl
        omega
      · rw [toks_err (by omega) hc he]
        show ((at' : Nat) : Int) ≤ ((at' + skip false s : Nat) : Int) ∧ ((at' + skip false s : Nat) : Int) ≤ (at' : Int) + s.length
        omega

/-- LexJoins' plain part. -/
theorem joins_plain (s t : List UInt8) (h : s.length + 1 + t.length ≤ 2000) :
    ((tokens s).1 ≠ 0 → (tokens s).1 = 3 ∨ ((tokens (s ++ 10 :: t)).1 = (tokens s).1 ∧ (tokens (s ++ 10 :: t)).2.1 = (tokens s).2.1)) ∧
    ((tokens s).1 = 0 → (tokens t).1 ≠ 0 → (tokens (s ++ 10 :: t)).1 = (tokens t).1 ∧ (tokens (s ++ 10 :: t)).2.1 = (tokens t).2.1 + s.length + 1 ∧ 0 ≤ (tokens t).2.1 ∧ (tokens t).2.1 ≤ 2000) ∧
    ((tokens s).1 = 0 → (tokens t).1 = 0 → (tokens (s ++ 10 :: t)).1 = 0 ∧ ∃ L E, (tokens s).2.2 = L ++ [E] ∧ L.length ≤ 2000 ∧ (tokens t).2.2 ≠ [] ∧ (tokens t).2.2.length ≤ 2001 ∧ (tokens (s ++ 10 :: t)).2.2.map Tk.z = (L ++ (tokens t).2.2).map Tk.z) := by
  have hl : (s ++ 10 :: t).length = s.length + 1 + t.length := by simp; omega
  have es : tokens s = toks (s.length + 1) s 0 := by rw [tokens, if_neg (by omega)]
  have et : tokens t = toks (t.length + 1) t 0 := by rw [tokens, if_neg (by omega)]
  have ej : tokens (s ++ 10 :: t) = toks ((s ++ 10 :: t).length + 1) (s ++ 10 :: t) 0 := by rw [tokens, if_neg (by omega)]
  have hj := joins (s.length + 1) ((s ++ 10 :: t).length + 1) s t 0 (by omega) (by omega)
  rw [← es, ← ej] at hj
  have hsh := toks_shift (t.length + 1) t 0 (0 + s.length + 1)
  rw [← et, show 0 + (0 + s.length + 1) = 0 + s.length + 1 by omega] at hsh
  refine ⟨fun h0 => ?_, fun h0 h1 => ?_, fun h0 h1 => ?_⟩
  · rcases hj.2 h0 with h | h
    · exact .inl h
    · exact .inr (by rw [h]; exact ⟨rfl, rfl⟩)
  · obtain ⟨l, e, hle, hz⟩ := hj.1 h0
    have herr : (toks (t.length + 1) t (0 + s.length + 1)).1 ≠ 0 := by rw [hsh.1]; exact h1
    rw [foldr_conT_err herr] at hz
    have hp := toks_place (t.length + 1) t 0 (by rw [← et]; exact h1)
    rw [← et] at hp
    rw [hz]
    refine ⟨hsh.1, ?_, by omega, by omega⟩
    rw [hsh.2.1 h1]
    omega
  · obtain ⟨l, e, hle, hz⟩ := hj.1 h0
    have hok : (toks (t.length + 1) t (0 + s.length + 1)).1 = 0 := by rw [hsh.1]; exact h1
    rw [foldr_conT_ok hok ((toks_form _ _ _).2 hok)] at hz
    obtain ⟨_, _, L2, hL2, hL2l, _⟩ := tokens_good h1
    obtain ⟨_, _, L1, hL1, hL1l, _⟩ := tokens_good h0
    refine ⟨by rw [hz], l, e, hle, ?_, by rw [hL2]; simp, by rw [hL2]; simp; omega, ?_⟩
    · have := congrArg List.length (hle.symm.trans hL1)
      simp at this
      omega
    · rw [hz, List.map_append, List.map_append, hsh.2.2]

theorem tcs_one (xs : List Tk) : ∀ u ∈ tcs xs, u.oneCell' = true := by
  intro u hu
  obtain ⟨x, _, hx⟩ := List.mem_flatMap.1 hu
  simp only [tc, List.mem_cons, List.not_mem_nil, or_false] at hx
  rcases hx with rfl | rfl | rfl | rfl <;> rfl

/-- The cells of tokens that are shown. -/
theorem toks_cells {w : World} {b off : Nat} {ys : List Tk} (hc : ∀ j x, ys[j]? = some x → w.cell? ⟨b, off + j * 4, none⟩ = some (.int .i64 x.k) ∧ w.cell? ⟨b, off + j * 4 + 1, none⟩ = some (.string (str8 x.s)) ∧ w.cell? ⟨b, off + j * 4 + 2, none⟩ = some (.int .i64 x.n) ∧ w.cell? ⟨b, off + j * 4 + 3, none⟩ = some (.int .i64 x.p)) :
    ∀ j u, (tcs ys)[j]? = some u → w.cell? ((⟨b, off, none⟩ : Addr).add j) = some u := by
  intro j u hu
  have hj : j < ys.length * 4 := by
    have := (List.getElem?_eq_some_iff.1 hu).1
    rwa [tcs_length] at this
  have hq : j / 4 < ys.length := by omega
  obtain ⟨c0, c1, c2, c3⟩ := hc (j / 4) ys[j / 4] (List.getElem?_eq_getElem hq)
  obtain ⟨e0, e1, e2, e3⟩ := tcs_at ys (j / 4) ys[j / 4] (List.getElem?_eq_getElem hq)
  rw [Addr.add_lit]
  have hm : j % 4 = 0 ∨ j % 4 = 1 ∨ j % 4 = 2 ∨ j % 4 = 3 := by omega
  rcases hm with hm | hm | hm | hm
  · have ej : j = j / 4 * 4 := by omega
    rw [ej] at hu
    rw [show off + j = off + j / 4 * 4 by omega, c0, ← hu, e0]
  · have ej : j = j / 4 * 4 + 1 := by omega
    rw [ej] at hu
    rw [show off + j = off + j / 4 * 4 + 1 by omega, c1, ← hu, e1]
  · have ej : j = j / 4 * 4 + 2 := by omega
    rw [ej] at hu
    rw [show off + j = off + j / 4 * 4 + 2 by omega, c2, ← hu, e2]
  · have ej : j = j / 4 * 4 + 3 := by omega
    rw [ej] at hu
    rw [show off + j = off + j / 4 * 4 + 3 by omega, c3, ← hu, e3]

/-- append(dst, src...), wanted: dst the call's own, src tokens that are shown. -/
theorem wpList_append_toks {P : Program} (w : World) {ops : Array Oper} {rest : List Oper} {o : Oper} {a : Act} {Q : Exit → Act → World → Prop} (hw : Region.wanted o (yielded ops a.tmps) = true) (s x : Operand) (t : TypeId)
    (ho : o.op = .call { callee := .builtin .append, args := #[s, x], argTypes := #[t, t] })
    (base : Nat) (e : TypeId) (i : TypeInfo) (z : Value) (ht : P.underlying t = some (.slice e)) (hi : P.info? e = some i) (hz : i.zero = some z) (hzc : z.cells.size = 4)
    (hsize : i.size = 4) (hby : i.bytes = 40)
    (v : Value) (n : Nat) (xs : List Value) (hs : a.eval s = v) (hown : w.ownsRow base e 4 v n xs)
    (b off m c : Nat) (ys : List Tk) (hm : m = ys.length) (hx : a.eval x = .slice (some ⟨b, off, none⟩) m c) (hcells : ∀ j u, (tcs ys)[j]? = some u → w.cell? ((⟨b, off, none⟩ : Addr).add j) = some u)
    (hbytes : (n + m) * 40 ≤ 140737488355328) (hbase : base ≤ w.heap.size)
    (h : ∀ v' w', w'.ownsRow base e 4 v' (n + m) (xs ++ tcs ys) → w.grownBy w' v.ownBlock → wpList P ops Q rest (a.put o.dst v') w') : wpList P ops Q (o :: rest) a w := by
  unfold wpList
  rw [if_pos hw]
  refine Or.inl (wp_append_own w s x t ho base e i z 4 40 ht hi hz hsize hby hzc (by decide) v n xs hs hown ⟨b, off, none⟩ m c (tcs ys) hx (by rw [tcs_length, hm]) hcells (tcs_one ys) (by unfold maxLen; omega) (by omega) hbase ?_)
  intro v' w' ho' hg hnil
  exact h v' w' ho' hg

theorem run_toksto (b off M c : Nat) (hM : M + 1 ≤ c) (w : World) : (Instr.slice 23 (.slice (some ⟨b, off, none⟩) (M + 1) c) none (some (.int .i64 (M : Int))) none).run Tryd.prog w = .ok (.slice (some ⟨b, off, none⟩) M c) w := by
  go_simp
  intro h
  omega

set_option maxHeartbeats 2000000 in
theorem lexJoins_law (s t : List UInt8) (w : World) (hs : s.length ≤ 140737488351232) (ht : t.length ≤ 140737488351232) (hT : TabL w) :
    Calls Tryd.prog 6 #[.string (str8 s), .string (str8 t)] w fun e w' => e = .returned (.bool true) ∧ Below w.heap.size w w' := by
  obtain ⟨i0, hi, hz0, hz1, hz2⟩ := info_parts Tryd.infoTok
  have zs : (str8 s).size = s.length := rfl
  have zt : (str8 t).size = t.length := rfl
  have HSM := hid (small8_any w hT)
  have HT := hid hT
  clear hT
  by_cases hA : 2000 < s.length
  · have hA' : (2000 : Int) < ((str8 s).size : Int) := by rw [zs]; omega
    go_enter Tryd.func6, Tryd.ntmps6
    go_wp2_with fail
    refine HSM.out.mono ?_
    rintro e w1 ⟨rfl, hb1⟩
    go_wp2
    go_ret
    exact ⟨rfl, hb1⟩
  · have hA' : ¬ (2000 : Int) < ((str8 s).size : Int) := by rw [zs]; omega
    by_cases hB : 2000 < t.length
    · have hB' : (2000 : Int) < ((str8 t).size : Int) := by rw [zt]; omega
      go_enter Tryd.func6, Tryd.ntmps6
      go_wp2_with fail
      refine HSM.out.mono ?_
      rintro e w1 ⟨rfl, hb1⟩
      go_wp2
      go_ret
      exact ⟨rfl, hb1⟩
    · have hB' : ¬ (2000 : Int) < ((str8 t).size : Int) := by rw [zt]; omega
      by_cases hC : 2000 < s.length + 1 + t.length
      · have hC' : (2000 : Int) < ((str8 s).size : Int) + 1 + ((str8 t).size : Int) := by rw [zs, zt]; omega
        go_enter Tryd.func6, Tryd.ntmps6
        go_wp2_with fail
        refine HSM.out.mono ?_
        rintro e w1 ⟨rfl, hb1⟩
        go_wp2
        go_ret
        exact ⟨rfl, hb1⟩
      · have hC' : ¬ (2000 : Int) < ((str8 s).size : Int) + 1 + ((str8 t).size : Int) := by rw [zs, zt]; omega
        obtain ⟨p1, p2, p3⟩ := joins_plain s t (by omega)
        have HK1 := hid (fun V (h : TabL V) => tokens_any s V h hs)
        have HK2 := hid (fun V (h : TabL V) => tokens_any t V h ht)
        have HK3 := hid (fun V (h : TabL V) => tokens_any (s ++ 10 :: t) V h (by simp; omega))
        have a1 : ∀ w, (Op.stringOp .add (str8 s) ⟨#[10]⟩).run Tryd.prog w = .ok (.string (str8 (s ++ [10]))) w := fun w => by
          rw [run_string_add_sum w _ _ (by rw [str8_size]; show s.length + 1 ≤ _; omega)]
          exact congrArg (fun x => Result.ok (Value.string x) w) (str8_add s [10])
        have a2 : ∀ w, (Op.stringOp .add (str8 (s ++ [10])) (str8 t)).run Tryd.prog w = .ok (.string (str8 (s ++ 10 :: t))) w := fun w => by
          rw [run_string_add_sum w _ _ (by rw [str8_size, str8_size, List.length_append]; show s.length + 1 + t.length ≤ _; omega), str8_add]
          simp
        generalize tokens s = X at HK1 p1 p2 p3
        generalize tokens t = Y at HK2 p2 p3
        generalize tokens (s ++ 10 :: t) = Z at HK3 p1 p2 p3
        obtain ⟨xe, xp, xl⟩ := X
        obtain ⟨ye, yp, yl⟩ := Y
        obtain ⟨ze, zp, zl⟩ := Z
        dsimp only at HK1 HK2 HK3 p1 p2 p3
        have P1 := hid p1
        have P2 := hid p2
        have P3 := hid p3
        clear p1 p2 p3
        obtain ⟨XE, hXE⟩ : ∃ XE : Int, (xe : Int) = XE := ⟨_, rfl⟩
        obtain ⟨YE, hYE⟩ : ∃ YE : Int, (ye : Int) = YE := ⟨_, rfl⟩
        obtain ⟨ZE, hZE⟩ : ∃ ZE : Int, (ze : Int) = ZE := ⟨_, rfl⟩
        rw [hXE] at HK1
        rw [hYE] at HK2
        rw [hZE] at HK3
        have EX := hid hXE
        have EY := hid hYE
        have EZ := hid hZE
        clear hXE hYE hZE
        go_enter Tryd.func6, Tryd.ntmps6
        go_wp2_with fail
        refine HSM.out.mono ?_
        rintro e w1 ⟨rfl, hb1⟩
        have HB1 := hid hb1
        clear hb1
        go_wp2_with fail
        refine (HK1.out w1 (HT.out.on HB1.out)).mono ?_
        rintro e w2 ⟨v, rfl, htk, hb2⟩
        obtain ⟨W2, hW2, hbW2, hzW2, hcW2⟩ := box2 w2 (.int .i64 XE) (.int .i64 xp) 26
        have hB2 := HB1.out.trans (hb2.mono HB1.out.size)
        have HB2 : Hid (Below w.heap.size w W2) := hid (hB2.trans (hbW2.mono hB2.size))
        have HV2 := hid (htk.on hbW2)
        have HF1 := hid hcW2
        obtain ⟨va, vc, rfl, hvc, _⟩ := id htk
        clear hb2 hbW2 hcW2 htk hB2
        go_wp2_with fail
        try rw [hW2]
        clear hW2
        refine (HK2.out W2 (HT.out.on HB2.out)).mono ?_
        rintro e w4 ⟨u, rfl, hum, hb4⟩
        obtain ⟨W4, hW4, hbW4, hzW4, hcW4⟩ := box2 w4 (.int .i64 YE) (.int .i64 yp) 26
        have hB4 := HB2.out.trans (hb4.mono HB2.out.size)
        have HB4 : Hid (Below w.heap.size w W4) := hid (hB4.trans (hbW4.mono hB4.size))
        have H24 : Hid (Below W2.heap.size W2 W4) := hid (hb4.trans (hbW4.mono hb4.size))
        have HV4 := hid (HV2.out.on H24.out)
        have HU4 := hid (hum.on hbW4)
        have HF2 := hid hcW4
        obtain ⟨ua, uc, rfl, huc, _⟩ := id hum
        clear hb4 hbW4 hcW4 hum hB4
        go_wp2_with fail
        try rw [hW4]
        clear hW4
        refine (HK3.out W4 (HT.out.on HB4.out)).mono ?_
        rintro e w6 ⟨x, rfl, hx6, hb6⟩
        have HB6 : Hid (Below w.heap.size w w6) := hid (HB4.out.trans (hb6.mono HB4.out.size))
        have H46 : Hid (Below W4.heap.size W4 w6) := hid hb6
        have H26 : Hid (Below W2.heap.size W2 w6) := hid (H24.out.trans (hb6.mono H24.out.size))
        have f1 := cells2 (HF1.out w6 H26.out)
        have f2 := cells2 (HF2.out w6 H46.out)
        have f1' := fun o => cells2 (HF1.out (w6.alloc o) (H26.out.alloc H26.out.size o))
        have f2' := fun o => cells2 (HF2.out (w6.alloc o) (H46.out.alloc H46.out.size o))
        have HE : Hid (∀ o, Below w.heap.size w (w6.alloc o)) := hid (fun o => HB6.out.alloc HB6.out.size o)
        obtain ⟨xa, xc, rfl, hxc, _⟩ := id hx6
        have HX6 := hid hx6
        have HV6 := hid (HV4.out.on hb6)
        have HU6 := hid (HU4.out.on hb6)
        clear hb6 hx6 HV4 HU4 HV2 HK1 HK2 HK3 HSM
        by_cases hx0 : xe = 0
        · subst hx0
          obtain rfl : XE = 0 := by have := EX.out; omega
          by_cases hy0 : ye = 0
          · subst hy0
            obtain rfl : YE = 0 := by have := EY.out; omega
            obtain ⟨hze, L, E, hLE, hLl, hyl, hyl2, hmap⟩ := P3.out rfl rfl
            obtain rfl : ZE = 0 := by have := EZ.out; omega
            have hxl : xl.length = L.length + 1 := by rw [hLE]; simp
            have hvc' : L.length + 1 ≤ vc := by rw [← hxl]; exact hvc
            obtain ⟨va', vc', hv', _, _, hv3⟩ := HV6.out
            simp only [Value.slice.injEq] at hv'
            obtain ⟨rfl, _, rfl⟩ := hv'
            obtain ⟨b, off, rfl, hbl, hcv⟩ := hv3 (by rw [hLE]; simp)
            obtain ⟨ua', uc', hu', _, _, hu3⟩ := HU6.out
            simp only [Value.slice.injEq] at hu'
            obtain ⟨rfl, _, rfl⟩ := hu'
            obtain ⟨b2, off2, rfl, hbl2, hcu⟩ := hu3 hyl
            obtain ⟨W6, hW6, hbW6, hzW6, hcW6⟩ := box2 w6 (.int .i64 0) (.int .i64 zp) 26
            have f1w := cells2 (HF1.out W6 (H26.out.trans (hbW6.mono H26.out.size)))
            have f2w := cells2 (HF2.out W6 (H46.out.trans (hbW6.mono H46.out.size)))
            have f3w := cells2 (hcW6 W6 (Below.refl _ _))
            have hcl : ∀ V, Below w6.heap.size w6 V → ∀ j u, (tcs L)[j]? = some u → V.cell? ((⟨b, off, none⟩ : Addr).add j) = some u := fun V hV => toks_cells (fun j x hx => by
              have hx' : xl[j]? = some x := by
                rw [hLE, List.getElem?_append_left (List.getElem?_eq_some_iff.1 hx).1]
                exact hx
              obtain ⟨c0, c1, c2, c3⟩ := hcv j x hx'
              exact ⟨(hV.cell (p := ⟨b, _, none⟩) hbl).trans c0, (hV.cell (p := ⟨b, _, none⟩) hbl).trans c1, (hV.cell (p := ⟨b, _, none⟩) hbl).trans c2, (hV.cell (p := ⟨b, _, none⟩) hbl).trans c3⟩)
            have hcy : ∀ V, Below w6.heap.size w6 V → ∀ j u, (tcs yl)[j]? = some u → V.cell? ((⟨b2, off2, none⟩ : Addr).add j) = some u := fun V hV => toks_cells (fun j x hx => by
              obtain ⟨c0, c1, c2, c3⟩ := hcu j x hx
              exact ⟨(hV.cell (p := ⟨b2, _, none⟩) hbl2).trans c0, (hV.cell (p := ⟨b2, _, none⟩) hbl2).trans c1, (hV.cell (p := ⟨b2, _, none⟩) hbl2).trans c2, (hV.cell (p := ⟨b2, _, none⟩) hbl2).trans c3⟩)
            have HCL := hid hcl
            have HCY := hid hcy
            have hsl := run_toksto b off L.length vc hvc'
            have hown0 := World.ownsRow_lit (base := W6.heap.size) (e := 33) (size := 4) W6 #[] 0 (Nat.le_refl _) (by unfold maxLen; omega) rfl
            have HBV : Hid (Below w6.heap.size w6 (W6.alloc (.cells #[] 33))) := hid (hbW6.alloc hbW6.size _)
            have HSV : Hid (W6.heap.size ≤ (W6.alloc (.cells #[] 33)).heap.size) := hid (by simp)
            have HB66 := hid hbW6
            have HMP := hid hmap
            have HLN := hid hLE
            have hpos : (0 : Int) < (L.length : Int) + 1 := by omega
            rw [hxl]
            clear hvc hv3 hu3 hcv hcu hcl hcy hcW6 hmap hLE hxl f1 f2 f1' f2' P1 P2 P3 EX EY EZ hbW6 HV6 HU6
            go_wp2_with (first
              | (at_builtin; refine wpList_append_toks _ (by rfl) (.tmp 98) (.tmp 103) 23 rfl W6.heap.size 33 i0 (.agg #[.int .i64 0, .string ⟨#[]⟩, .int .i64 0, .int .i64 0]) Tryd.underlying23 hi hz0 rfl hz1 hz2 _ _ _ rfl hown0 b off L.length vc L rfl rfl (HCL.out _ HBV.out) (by omega) HSV.out ?_; intro v7 w7 hown7 hg7
                 have HG7 : Hid (Below W6.heap.size (W6.alloc (.cells #[] 33)) w7) := hid ((Below.refl _ _).grown hg7 HSV.out (fun q hq => (hown0.lt q hq).1))
                 have HB7 : Hid (Below w6.heap.size w6 w7) := hid (HBV.out.trans (HG7.out.mono HB66.out.size))
                 have HS7 : Hid (W6.heap.size ≤ w7.heap.size) := hid (Nat.le_trans HSV.out HG7.out.size)
                 clear hg7)
              | (at_builtin; refine wpList_append_toks _ (by rfl) (.tmp 104) (.tmp 105) 23 rfl W6.heap.size 33 i0 (.agg #[.int .i64 0, .string ⟨#[]⟩, .int .i64 0, .int .i64 0]) Tryd.underlying23 hi hz0 rfl hz1 hz2 _ _ _ rfl hown7 b2 off2 yl.length uc yl rfl rfl (HCY.out _ HB7.out) (by omega) HS7.out ?_; intro v8 w8 hown8 hg8
                 have HG8 : Hid (Below W6.heap.size w7 w8) := hid ((Below.refl _ _).grown hg8 HS7.out (fun q hq => (hown7.lt q hq).1))
                 have HB8 : Hid (Below w6.heap.size w6 w8) := hid (HB7.out.trans (HG8.out.mono HB66.out.size))
                 clear hg8)
              | fail)
            have hT8 : Toks w8.heap.size w8 v8 (L ++ yl) := by
              have e : ([] ++ tcs L ++ tcs yl : List Value) = tcs (L ++ yl) := by simp [tcs]
              have h8 := hown8
              have e0 : ((#[] : Array Value).toList ++ tcs L ++ tcs yl) = tcs (L ++ yl) := by simp [tcs]
              rw [e0] at h8
              exact (toks_of_owns h8).2
            have HSA := hid (sameT_any w8.heap.size _ v8 zl (L ++ yl) w8 (Nat.le_refl _) (HX6.out.on HB8.out) hT8 HMP.out)
            have HB88 : Hid (Below w.heap.size w w8) := hid (HB6.out.trans (HB8.out.mono HB6.out.size))
            clear hT8 hown8 hown7
            refine HSA.out.mono ?_
            rintro e w9 ⟨rfl, hb9⟩
            have HB9 : Hid (Below w.heap.size w w9) := hid (HB88.out.trans (hb9.mono HB88.out.size))
            clear hb9 HSA
            go_wp2
            go_ret
            exact ⟨by simp, HB9.out⟩
          · obtain ⟨q1, q2, q3, q4⟩ := P2.out rfl hy0
            have hYE : (YE != 0) = true := by have := EY.out; rw [bne_iff_ne]; omega
            have hZY : ZE = YE := by have := EY.out; have := EZ.out; omega
            subst hZY
            have hsl : s.length ≤ 2000 := by omega
            clear P1 P2 P3 hy0 q1 EX EY EZ
            subst q2
            go_wp2
            go_ret
            exact ⟨by simp, HE.out _⟩
        · have hXE : (XE != 0) = true := by have := EX.out; rw [bne_iff_ne]; omega
          have HQ := P1.out hx0
          by_cases h3 : xe = 3
          · obtain rfl : XE = 3 := by have := EX.out; omega
            clear P1 P2 P3 HQ
            go_wp2
            go_ret
            exact ⟨rfl, HE.out _⟩
          · have hX3 : (XE == 3) = false := by have := EX.out; rw [beq_eq_false_iff_ne]; omega
            have hq := HQ.resolve_left h3
            have hZX : ZE = XE := by have := EX.out; have := EZ.out; omega
            obtain rfl : zp = xp := hq.2
            subst hZX
            have heq := run_eqfault ZE zp
            have hg2 := Tryd.eqGuardFault
            clear P1 P2 P3 HQ hq
            go_wp2
            go_ret
            exact ⟨by simp, HE.out _⟩

end Go.Proofs.YtlbhaknceiehiaaDoor
