/- ParseJoins: two scripts with a ; between are read as the statements of both. -/
import Derived.Test.YtokfphfgcjbpkaaGreatDoorPEmptyL
import Derived.Test.YtokfphfgcjbpkaaGreatDoorPLawB
namespace Go.Proofs.YtokfphfgcjbpkaaGreatDoor
open Go.RowKit Go.Shelf
set_option linter.unusedVariables false
set_option linter.unusedSimpArgs false
set_option maxRecDepth 20000

theorem flat_index (z : Nat) (hz : 0 < z) : ∀ (css : List (List Value)), (∀ cs ∈ css, cs.length = z) → ∀ (j : Nat) (u : Value), css.flatten[j]? = some u → ∃ cs, css[j / z]? = some cs ∧ cs[j % z]? = some u
  | [], _, j, u, h => by simp at h
  | c :: css, hl, j, u, h => by
    have hc := hl c (by simp)
    rw [List.flatten_cons] at h
    rcases Nat.lt_or_ge j z with hj | hj
    · rw [List.getElem?_append_left (by omega)] at h
      rw [Nat.div_eq_of_lt hj, Nat.mod_eq_of_lt hj]
      exact ⟨c, rfl, h⟩
    · rw [List.getElem?_append_right (by omega), hc] at h
      obtain ⟨cs, h1, h2⟩ := flat_index z hz css (fun x hx => hl x (by simp [hx])) (j - z) u h
      refine ⟨cs, ?_, ?_⟩
      · rw [show j / z = (j - z) / z + 1 from (Nat.div_eq_sub_div hz hj)]
        exact h1
      · rw [show j % z = (j - z) % z from (Nat.mod_eq_sub_mod hj)]
        exact h2

theorem Els.lens {α : Type} {z : Nat} {El : (Nat → Prop) → World → α → List Value → Prop} {S : Nat → Prop} {w : World} {xs : List α} {css : List (List Value)} (h : Els z El S w xs css) : ∀ cs ∈ css, cs.length = z := fun cs hc => by
  obtain ⟨j, hj, e⟩ := List.getElem_of_mem hc
  have hx : xs[j]? = some (xs[j]'(by rw [← h.1]; exact hj)) := List.getElem?_eq_getElem _
  exact (h.2 j _ cs hx (by rw [List.getElem?_eq_getElem hj, e])).1

theorem flatten_length (z : Nat) : ∀ (css : List (List Value)), (∀ cs ∈ css, cs.length = z) → css.flatten.length = css.length * z
  | [], _ => by simp
  | c :: css, h => by
    rw [List.flatten_cons, List.length_append, h c (by simp), flatten_length z css (fun x hx => h x (by simp [hx])), List.length_cons, Nat.succ_mul]
    omega

theorem Els.append {α : Type} {z : Nat} {El : (Nat → Prop) → World → α → List Value → Prop} {S : Nat → Prop} {w : World} {xs ys : List α} {css dss : List (List Value)} (h : Els z El S w xs css) (k : Els z El S w ys dss) : Els z El S w (xs ++ ys) (css ++ dss) := by
  refine ⟨by simp [h.1, k.1], fun j x cs hx hc => ?_⟩
  rcases Nat.lt_or_ge j xs.length with hj | hj
  · rw [List.getElem?_append_left hj] at hx
    rw [List.getElem?_append_left (by rw [h.1]; exact hj)] at hc
    exact h.2 j x cs hx hc
  · rw [List.getElem?_append_right hj] at hx
    rw [List.getElem?_append_right (by rw [h.1]; exact hj), h.1] at hc
    exact k.2 _ x cs hx hc

/-- A statement's cells are one cell each. -/
theorem StE.one {S : Nat → Prop} {w : World} {x : St} {cs : List Value} (h : StE S w x cs) : ∀ u ∈ cs, u.oneCell' = true := by
  obtain ⟨a1, a2, a3, a4, a5, a6, a7, a8, m1, m2, m3, m4, m5, m6, m7, m8, c1, c2, c3, c4, c5, c6, c7, c8, rfl, _⟩ := h
  intro u hu
  simp at hu
  rcases hu with rfl | rfl | rfl | rfl | rfl | rfl | rfl | rfl | rfl | rfl | rfl | rfl | rfl | rfl <;> rfl

/-- Statements that are shown, as a row of cells, in every later world. -/
theorem SlAt.flat {S : Nat → Prop} {w : World} {xs : List St} {v : Value} (h : SlAt 14 StE S w xs v) (hne : xs ≠ []) :
    ∃ (b off c : Nat) (css : List (List Value)), v = .slice (some ⟨b, off, none⟩) xs.length c ∧ Els 14 StE S w xs css ∧ css.flatten.length = xs.length * 14 ∧ (∀ u ∈ css.flatten, u.oneCell' = true) ∧
      ∀ Z, Below w.heap.size w Z → ∀ (j : Nat) (u : Value), css.flatten[j]? = some u → Z.cell? ((⟨b, off, none⟩ : Addr).add j) = some u := by
  obtain ⟨a, c, css, h1, h2, h3, h4, h5⟩ := h
  obtain ⟨b, off, rfl, hb, hc⟩ := h5 hne
  refine ⟨b, off, c, css, h1, h4, by rw [flatten_length 14 css h4.lens, h4.1], fun u hu => ?_, fun Z hZ j u hu => ?_⟩
  · obtain ⟨cs, hcs, hu'⟩ := List.mem_flatten.1 hu
    obtain ⟨j, hj, e⟩ := List.getElem_of_mem hcs
    have hx : xs[j]? = some (xs[j]'(by rw [← h4.1]; exact hj)) := List.getElem?_eq_getElem _
    exact StE.one (h4.2 j _ cs hx (by rw [List.getElem?_eq_getElem hj, e])).2 u hu'
  · obtain ⟨cs, e1, e2⟩ := flat_index 14 (by decide) css h4.lens j u hu
    have := hc (j / 14) cs e1 (j % 14) u e2
    rw [Addr.add_lit]
    have ej : off + j / 14 * 14 + j % 14 = off + j := by have := Nat.div_add_mod j 14; omega
    rw [ej] at this
    exact (hZ.cell (p := ⟨b, off + j, none⟩) (World.block_lt_of_cell? w _ this)).trans this

/-- append(dst, src...), wanted: dst the call's own, src statements. -/
theorem wpList_append_stms {P : Program} (w : World) {ops : Array Oper} {rest : List Oper} {o : Oper} {a : Act} {Q : Exit → Act → World → Prop} (hw : Region.wanted o (yielded ops a.tmps) = true) (s x : Operand) (t : TypeId)
    (ho : o.op = .call { callee := .builtin .append, args := #[s, x], argTypes := #[t, t] })
    (base : Nat) (e : TypeId) (i : TypeInfo) (z : Value) (ht : P.underlying t = some (.slice e)) (hi : P.info? e = some i) (hz : i.zero = some z) (hzc : z.cells.size = 14)
    (hsize : i.size = 14) (hby : i.bytes = 264)
    (v : Value) (n : Nat) (xs : List Value) (hs : a.eval s = v) (hown : w.ownsRow base e 14 v n xs)
    (b off m c : Nat) (news : List Value) (hx : a.eval x = .slice (some ⟨b, off, none⟩) m c) (hl : news.length = m * 14) (hcells : ∀ j u, news[j]? = some u → w.cell? ((⟨b, off, none⟩ : Addr).add j) = some u) (h1 : ∀ u ∈ news, u.oneCell' = true)
    (hbytes : (n + m) * 264 ≤ 140737488355328) (hbase : base ≤ w.heap.size)
    (h : ∀ v' w', w'.ownsRow base e 14 v' (n + m) (xs ++ news) → w.grownBy w' v.ownBlock → wpList P ops Q rest (a.put o.dst v') w') : wpList P ops Q (o :: rest) a w := by
  unfold wpList
  rw [if_pos hw]
  refine Or.inl (wp_append_own w s x t ho base e i z 14 264 ht hi hz hsize hby hzc (by decide) v n xs hs hown ⟨b, off, none⟩ m c news hx hl hcells h1 (by unfold maxLen; omega) hbytes hbase ?_)
  intro v' w' ho' hg hnil
  exact h v' w' ho' hg

set_option maxHeartbeats 4000000 in
theorem parseJoins_law (s t : List UInt8) (w : World) (hs : s.length ≤ 140737488351232) (ht : t.length ≤ 140737488351232) (hT : TabL w) :
    Calls Tryz.prog 5 #[.string (str8 s), .string (str8 t)] w fun e w' => e = .returned (.bool true) ∧ Below w.heap.size w w' := by
  obtain ⟨i0, hi, hy0, hy1, hy2⟩ := info_parts Tryz.infoSt
  have zs : (str8 s).size = s.length := rfl
  have zt : (str8 t).size = t.length := rfl
  have HSM := hid (small9_any w hT)
  have HT := hid hT
  clear hT
  by_cases hA : 2000 < s.length
  · have hA' : (2000 : Int) < ((str8 s).size : Int) := by rw [zs]; omega
    go_enter Tryz.func5, Tryz.ntmps5
    go_wp2_with fail
    refine HSM.out.mono ?_
    rintro e w1 ⟨rfl, hb1⟩
    go_wp2
    go_ret
    exact ⟨rfl, hb1⟩
  · have hA' : ¬ (2000 : Int) < ((str8 s).size : Int) := by rw [zs]; omega
    by_cases hB : 2000 < t.length
    · have hB' : (2000 : Int) < ((str8 t).size : Int) := by rw [zt]; omega
      go_enter Tryz.func5, Tryz.ntmps5
      go_wp2_with fail
      refine HSM.out.mono ?_
      rintro e w1 ⟨rfl, hb1⟩
      go_wp2
      go_ret
      exact ⟨rfl, hb1⟩
    · have hB' : ¬ (2000 : Int) < ((str8 t).size : Int) := by rw [zt]; omega
      by_cases hC : 2000 < s.length + 3 + t.length
      · have hC' : (2000 : Int) < ((str8 s).size : Int) + 3 + ((str8 t).size : Int) := by rw [zs, zt]; omega
        go_enter Tryz.func5, Tryz.ntmps5
        go_wp2_with fail
        refine HSM.out.mono ?_
        rintro e w1 ⟨rfl, hb1⟩
        go_wp2
        go_ret
        exact ⟨rfl, hb1⟩
      · have hC' : ¬ (2000 : Int) < ((str8 s).size : Int) + 3 + ((str8 t).size : Int) := by rw [zs, zt]; omega
        have hplain := fun h1 h2 => joins9_plain (s := s) (t := t) h1 h2 (by omega)
        have b1 := script_bad (s := s)
        have b2 := script_bad (s := t)
        have HK1 := hid (fun V (h : TabL V) => script_any s V h hs)
        have HK2 := hid (fun V (h : TabL V) => script_any t V h ht)
        have HK3 := hid (fun V (h : TabL V) => script_any (s ++ 10 :: 59 :: 10 :: t) V h (by simp; omega))
        have a1 : ∀ w, (Op.stringOp .add (str8 s) ⟨#[10, 59, 10]⟩).run Tryz.prog w = .ok (.string (str8 (s ++ [10, 59, 10]))) w := fun w => by
          rw [run_string_add_sum w _ _ (by rw [str8_size]; show s.length + 3 ≤ _; omega)]
          exact congrArg (fun x => Result.ok (Value.string x) w) (str8_add s [10, 59, 10])
        have a2 : ∀ w, (Op.stringOp .add (str8 (s ++ [10, 59, 10])) (str8 t)).run Tryz.prog w = .ok (.string (str8 (s ++ 10 :: 59 :: 10 :: t))) w := fun w => by
          rw [run_string_add_sum w _ _ (by rw [str8_size, str8_size, List.length_append]; show s.length + 3 + t.length ≤ _; omega), str8_add]
          simp
        have hone : (1 ≤ (scriptA s).1.length ∧ (scriptA s).1.length ≤ 8) ∨ (scriptA s).2.1 ≠ 0 := by
          by_cases e : (scriptA s).2.1 = 0
          · obtain ⟨r1, h1, hb, _⟩ := script_ok e
            obtain ⟨c, hc, hc1, hc8, _⟩ := list_room (nice_st (b := false)) 8 [] _ _ r1 h1 hb
            rw [List.nil_append] at hc
            exact .inl (by rw [hc]; exact ⟨hc1, hc8⟩)
          · exact .inr e
        have htwo : (1 ≤ (scriptA t).1.length ∧ (scriptA t).1.length ≤ 8) ∨ (scriptA t).2.1 ≠ 0 := by
          by_cases e : (scriptA t).2.1 = 0
          · obtain ⟨r1, h1, hb, _⟩ := script_ok e
            obtain ⟨c, hc, hc1, hc8, _⟩ := list_room (nice_st (b := false)) 8 [] _ _ r1 h1 hb
            rw [List.nil_append] at hc
            exact .inl (by rw [hc]; exact ⟨hc1, hc8⟩)
          · exact .inr e
        obtain ⟨⟨X, xp, xq⟩, hX⟩ : ∃ x, scriptA s = x := ⟨_, rfl⟩
        obtain ⟨⟨Y, yp, yq⟩, hY⟩ : ∃ x, scriptA t = x := ⟨_, rfl⟩
        obtain ⟨⟨Z, zp, zq⟩, hZ⟩ : ∃ x, scriptA (s ++ 10 :: 59 :: 10 :: t) = x := ⟨_, rfl⟩
        rw [hX] at HK1 b1 hone
        rw [hY] at HK2 b2 htwo
        rw [hZ] at HK3
        rw [hX, hY, hZ] at hplain
        dsimp only at HK1 HK2 HK3 b1 b2 hplain hone htwo
        have P1 := hid b1
        have P2 := hid b2
        have PP := hid hplain
        have O1 := hid hone
        have O2 := hid htwo
        clear b1 b2 hplain hone htwo hX hY hZ hA hB hC
        go_enter Tryz.func5, Tryz.ntmps5
        go_wp2_with fail
        refine HSM.out.mono ?_
        rintro e w1 ⟨rfl, hb1⟩
        have HB1 := hid hb1
        clear hb1 HSM
        go_wp2_with fail
        refine (HK1.out w1 (HT.out.on HB1.out)).mono ?_
        rintro e w2 ⟨a2', n2, c2, rfl, hl2, hb2⟩
        have hn2 := hl2.len
        go_wp2_with fail
        obtain ⟨W2, hW2, hbW2, hzW2, hcW2⟩ := box2 w2 (.int .i64 xp) (.int .i64 xq) 26
        have hB12 := hb2.trans (hbW2.mono hb2.size)
        have HB2 : Hid (Below w.heap.size w W2) := hid (HB1.out.trans (hB12.mono HB1.out.size))
        have HL2 := hid (hl2.to (by decide) (R := fun _ => False) (T := fun _ => True) (Spares.of_new hbW2) (fun b hb _ => ⟨id, trivial⟩) (fun _ _ e => e.to (R := fun _ => False) (Spares.of_new hbW2) (fun b hb _ => ⟨id, trivial⟩)))
        have HF2 := hid hcW2
        have HN2 := hid hn2
        rw [hW2]
        clear hW2 hbW2 hcW2 hb2 hl2 hB12 HK1 hn2
        refine (HK2.out W2 (HT.out.on HB2.out)).mono ?_
        rintro e w3 ⟨a3, n3, c3, rfl, hl3, hb3⟩
        have hn3 := hl3.len
        go_wp2_with fail
        obtain ⟨W3, hW3, hbW3, hzW3, hcW3⟩ := box2 w3 (.int .i64 yp) (.int .i64 yq) 26
        have hB23 := hb3.trans (hbW3.mono hb3.size)
        have HB3 : Hid (Below w.heap.size w W3) := hid (HB2.out.trans (hB23.mono HB2.out.size))
        have HL3 := hid (hl3.to (by decide) (R := fun _ => False) (T := fun _ => True) (Spares.of_new hbW3) (fun b hb _ => ⟨id, trivial⟩) (fun _ _ e => e.to (R := fun _ => False) (Spares.of_new hbW3) (fun b hb _ => ⟨id, trivial⟩)))
        have HB23 := hid hB23
        have HF3 := hid hcW3
        have HN3 := hid hn3
        rw [hW3]
        clear hW3 hbW3 hcW3 hb3 hl3 hB23 HK2 hn3
        refine (HK3.out W3 (HT.out.on HB3.out)).mono ?_
        rintro e w4 ⟨a4, n4, c4, rfl, hl4, hb4⟩
        have HN4 := hid hl4.len
        have HL4 := hid hl4
        have HB34 := hid hb4
        have HB4 : Hid (Below w.heap.size w w4) := hid (HB3.out.trans (hb4.mono HB3.out.size))
        have h24 := HB23.out.trans (hb4.mono HB23.out.size)
        have f2 := fun o => cells2 (HF2.out (w4.alloc o) (h24.alloc h24.size o))
        have f3 := fun o => cells2 (HF3.out (w4.alloc o) (hb4.alloc hb4.size o))
        have HE : Hid (∀ o, Below w.heap.size w (w4.alloc o)) := hid (fun o => HB4.out.alloc HB4.out.size o)
        have H24 := hid h24
        clear hl4 hb4 h24 HK3
        by_cases hxp : xp = 0
        · subst hxp
          by_cases hyp : yp = 0
          · subst hyp
            obtain ⟨hp1, hp2⟩ := PP.out rfl rfl
            obtain ⟨hX1, hX8⟩ := O1.out.resolve_right (fun h => h rfl)
            obtain ⟨hY1, hY8⟩ := O2.out.resolve_right (fun h => h rfl)
            have hn2l : n2 ≤ 8 := by rw [HN2.out]; exact hX8
            have hn3l : n3 ≤ 8 := by rw [HN3.out]; exact hY8
            by_cases h8 : 8 < X.length + Y.length
            · obtain ⟨hZ1, hZ2⟩ := hp2 h8
              subst hZ2
              obtain rfl : n4 = 0 := by rw [HN4.out, hZ1]; rfl
              have h8' : (8 : Int) < (n2 : Int) + (n3 : Int) := by rw [HN2.out, HN3.out]; omega
              clear hp1 hp2 PP P1 P2 O1 O2 HL2 HL3 HL4
              go_wp2
              go_ret
              exact ⟨by simp, HE.out _⟩
            · have hpz := hp1 (by omega)
              simp only [Prod.mk.injEq] at hpz
              obtain ⟨hZ1, hZ2, hZ3⟩ := hpz
              clear hZ3
              subst hZ1 hZ2
              have h8' : ¬ (8 : Int) < (n2 : Int) + (n3 : Int) := by rw [HN2.out, HN3.out]; omega
              obtain ⟨b, off, vc, cssA, hve, hEA, hlA, h1A, hcA⟩ := HL2.out.flat (by intro h; rw [h] at hX1; simp at hX1)
              obtain ⟨b2, off2, uc, cssB, hue, hEB, hlB, h1B, hcB⟩ := HL3.out.flat (by intro h; rw [h] at hY1; simp at hY1)
              simp only [Value.slice.injEq] at hve hue
              obtain ⟨rfl, rfl, rfl⟩ := hve
              obtain ⟨rfl, rfl, rfl⟩ := hue
              obtain ⟨W6, hW6, hbW6, hzW6, hcW6⟩ := box2 w4 (.int .i64 0) (.int .i64 zq) 26
              have f2w := cells2 (HF2.out W6 (H24.out.trans (hbW6.mono H24.out.size)))
              have f3w := cells2 (HF3.out W6 (HB34.out.trans (hbW6.mono HB34.out.size)))
              have f4w := cells2 (hcW6 W6 (Below.refl _ _))
              have hown0 := World.ownsRow_lit (base := W6.heap.size) (e := 50) (size := 14) W6 #[] 0 (Nat.le_refl _) (by unfold maxLen; omega) rfl
              have HBV : Hid (Below w4.heap.size w4 (W6.alloc (.cells #[] 50))) := hid (hbW6.alloc hbW6.size _)
              have HSV : Hid (W6.heap.size ≤ (W6.alloc (.cells #[] 50)).heap.size) := hid (by simp)
              have HB66 := hid hbW6
              have HCL := hid (fun V (hV : Below w4.heap.size w4 V) => hcA V (H24.out.trans (hV.mono H24.out.size)))
              have HCY := hid (fun V (hV : Below w4.heap.size w4 V) => hcB V (HB34.out.trans (hV.mono HB34.out.size)))
              have hEE := hid (And.intro hEA hEB)
              clear hcA hcB hEA hEB hbW6 hcW6 f2 f3 hp1 hp2 PP P1 P2 O1 O2 HL2 HL3
              go_wp2_with (first
                | (at_builtin; refine wpList_append_stms _ (by rfl) (.tmp 103) (.tmp 104) 23 rfl W6.heap.size 50 i0 (.agg #[.int .i64 0, .string ⟨#[]⟩, .slice none 0 0, .string ⟨#[]⟩, .slice none 0 0, .slice none 0 0, .slice none 0 0, .string ⟨#[]⟩, .slice none 0 0, .slice none 0 0, .slice none 0 0, .slice none 0 0, .bool false, .int .i64 0]) Tryz.underlying23 hi hy0 rfl hy1 hy2 _ _ _ rfl hown0 b off X.length c2 cssA.flatten rfl hlA (HCL.out _ HBV.out) h1A (by omega) HSV.out ?_; intro v7 w7 hown7 hg7
                   have HG7 : Hid (Below W6.heap.size (W6.alloc (.cells #[] 50)) w7) := hid ((Below.refl _ _).grown hg7 HSV.out (fun q hq => (hown0.lt q hq).1))
                   have HB7 : Hid (Below w4.heap.size w4 w7) := hid (HBV.out.trans (HG7.out.mono HB66.out.size))
                   have HS7 : Hid (W6.heap.size ≤ w7.heap.size) := hid (Nat.le_trans HSV.out HG7.out.size)
                   clear hg7)
                | (at_builtin; refine wpList_append_stms _ (by rfl) (.tmp 105) (.tmp 106) 23 rfl W6.heap.size 50 i0 (.agg #[.int .i64 0, .string ⟨#[]⟩, .slice none 0 0, .string ⟨#[]⟩, .slice none 0 0, .slice none 0 0, .slice none 0 0, .string ⟨#[]⟩, .slice none 0 0, .slice none 0 0, .slice none 0 0, .slice none 0 0, .bool false, .int .i64 0]) Tryz.underlying23 hi hy0 rfl hy1 hy2 _ _ _ rfl hown7 b2 off2 Y.length c3 cssB.flatten rfl hlB (HCY.out _ HB7.out) h1B (by omega) HS7.out ?_; intro v8 w8 hown8 hg8
                   have HG8 : Hid (Below W6.heap.size w7 w8) := hid ((Below.refl _ _).grown hg8 HS7.out (fun q hq => (hown7.lt q hq).1))
                   have HB8 : Hid (Below w4.heap.size w4 w8) := hid (HB7.out.trans (HG8.out.mono HB66.out.size))
                   clear hg8)
                | fail)
              have h28 := H24.out.trans (HB8.out.mono H24.out.size)
              have h38 := HB34.out.trans (HB8.out.mono HB34.out.size)
              have hE8 : Els 14 StE (fun _ => True) w8 (X ++ Y) (cssA ++ cssB) := Els.append
                (hEE.out.1.to (fun _ _ e => e.to (R := fun _ => False) (Spares.of_new h28) (fun b hb _ => ⟨id, trivial⟩)))
                (hEE.out.2.to (fun _ _ e => e.to (R := fun _ => False) (Spares.of_new h38) (fun b hb _ => ⟨id, trivial⟩)))
              have hS8 : SlAt 14 StE (fun _ => True) w8 (X ++ Y) v8 := by
                have k := hown8
                have e0 : ((#[] : Array Value).toList ++ cssA.flatten ++ cssB.flatten) = (cssA ++ cssB).flatten := by simp
                have e1 : 0 + X.length + Y.length = (X ++ Y).length := by simp
                rw [e0, e1] at k
                exact SlAt.of_owns (by decide) k hE8 (fun _ _ => trivial)
              have hL8 := HL4.out.to (by decide) (R := fun _ => False) (T := fun _ => True) (Spares.of_new HB8.out) (fun b hb _ => ⟨id, trivial⟩) (fun _ _ e => e.to (R := fun _ => False) (Spares.of_new HB8.out) (fun b hb _ => ⟨id, trivial⟩))
              have HSA := hid (sameAll_any _ _ _ _ _ w8 hL8 hS8)
              have HB88 : Hid (Below w.heap.size w w8) := hid (HB4.out.trans (HB8.out.mono HB4.out.size))
              clear hS8 hL8 hE8 hown8 hown7
              refine HSA.out.mono ?_
              rintro e w9 ⟨rfl, hb9⟩
              have HB9 : Hid (Below w.heap.size w w9) := hid (HB88.out.trans (hb9.mono HB88.out.size))
              clear hb9 HSA
              go_wp2
              go_ret
              exact ⟨by simp, HB9.out⟩
          · have hY0 := P2.out hyp
            obtain rfl : n3 = 0 := by rw [HN3.out, hY0]; rfl
            have hb1 : (yp != 0) = true := by rw [bne_iff_ne]; exact hyp
            have hb2 : (yp == 0) = false := by rw [beq_eq_false_iff_ne]; exact hyp
            clear PP P1 P2 O1 O2 HL2 HL3 HL4
            go_wp2
            go_ret
            exact ⟨by simp, HE.out _⟩
        · have hX0 := P1.out hxp
          obtain rfl : n2 = 0 := by rw [HN2.out, hX0]; rfl
          have ha1 : (xp != 0) = true := by rw [bne_iff_ne]; exact hxp
          have ha2 : (xp == 0) = false := by rw [beq_eq_false_iff_ne]; exact hxp
          by_cases hyp : yp = 0
          · subst hyp
            clear PP P1 P2 O1 O2 HL2 HL3 HL4
            go_wp2
            go_ret
            exact ⟨by simp, HE.out _⟩
          · have hY0 := P2.out hyp
            obtain rfl : n3 = 0 := by rw [HN3.out, hY0]; rfl
            have hb1 : (yp != 0) = true := by rw [bne_iff_ne]; exact hyp
            have hb2 : (yp == 0) = false := by rw [beq_eq_false_iff_ne]; exact hyp
            clear PP P1 P2 O1 O2 HL2 HL3 HL4
            go_wp2
            go_ret
            exact ⟨by simp, HE.out _⟩

end Go.Proofs.YtokfphfgcjbpkaaGreatDoor
