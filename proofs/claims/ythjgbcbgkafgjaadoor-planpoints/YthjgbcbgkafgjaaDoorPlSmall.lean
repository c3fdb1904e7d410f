/- Contract of stage 15's small case. -/
import Derived.Test.YthjgbcbgkafgjaaDoorPlPS
import Derived.Test.YthjgbcbgkafgjaaDoorVKey
namespace Go.Proofs.YthjgbcbgkafgjaaDoor
open Go.RowKit Go.Shelf
set_option linter.unusedVariables false
set_option linter.unusedSimpArgs false
set_option maxRecDepth 20000

/-- A test of a column against a value. -/
def pointX (op c : Int) (v : Vl) : Ex := .mk 3 op [] [] ⟨0, 0, []⟩ [.mk 2 0 [] [] ⟨1, c, []⟩ [], .mk 1 0 [] [] v []]

theorem span_point (d : Nat) (op c : Int) (v : Vl) (ho : op = 3 ∨ op = 5 ∨ op = 6 ∨ op = 7 ∨ op = 8) (hv : rightV v = 0) : spanD (d + 1) (pointX op c v) c = testP op v := by
  have h1 : isCol (.mk 2 0 [] [] ⟨1, c, []⟩ []) c = true := by
    show (decide ((2 : Int) = 2) && eqv ⟨1, c, []⟩ ⟨1, c, []⟩) = true
    rw [eqv_iff.2 rfl]
    rfl
  have h2 : isVal (.mk 1 0 [] [] v []) = true := by
    show (decide ((1 : Int) = 1) && decide (rightV v = 0)) = true
    rw [decide_eq_true hv]
    rfl
  unfold pointX
  rw [spanD_succ, if_pos rfl]
  dsimp only
  rw [if_neg (by omega), if_neg (by omega), h1, h2]
  rfl

theorem few_point (op c : Int) (v : Vl) : fewP 2 (pointX op c v) = true := rfl

theorem rg_point (op c : Int) (v : Vl) (hc : -9223372036854775808 ≤ c ∧ c ≤ 9223372036854775807) (hv : RgV v) : RgE (pointX op c v) := by
  refine .mk _ _ _ _ _ _ (by simp) (by simp) (by simp) (by simp) (by simp) fun x hx => ?_
  simp only [List.mem_cons, List.not_mem_nil, or_false] at hx
  rcases hx with rfl | rfl
  · exact .mk _ _ _ _ _ _ hc.1 hc.2 (by simp) (by simp) (by simp) (fun _ h => by cases h)
  · exact .mk _ _ _ _ _ _ hv.1 hv.2.1 hv.2.2 (by simp) (by simp) (fun _ h => by cases h)

/-- A test's expression lies in a row of its own. -/
theorem exv_point (op c : Int) (v : Vl) (w : World) (S : Nat → Prop) (g : Nat) (hS : S g)
    (hg : w.heap[g]? = some (.cells #[.int .i64 2, .int .i64 0, .string ⟨#[]⟩, .string ⟨#[]⟩, .int .i64 1, .int .i64 c, .string (str8 []), .slice none 0 0, .int .i64 1, .int .i64 0, .string ⟨#[]⟩, .string ⟨#[]⟩, .int .i64 v.k, .int .i64 v.n, .string (str8 v.s), .slice none 0 0] 26 (0, 0))) :
    ExV S w (pointX op c v) (.agg #[.int .i64 3, .int .i64 op, .string ⟨#[]⟩, .string ⟨#[]⟩, .int .i64 0, .int .i64 0, .string ⟨#[]⟩, .slice (some ⟨g, 0, none⟩) 2 2]) :=
  ⟨3, op, [], [], 0, 0, [], _, _, 2, 2, rfl, rfl, args_two (tb := []) (nm := []) (vs := []) (tb2 := []) (nm2 := []) hS hg (.nil _ _ (by unfold maxLen; omega)) (.nil _ _ (by unfold maxLen; omega))⟩

theorem str8_snoc0 (K : List UInt8) : str8 (K ++ [0]) = str8 K ++ ⟨#[0]⟩ := by
  apply ByteArray.ext
  simp [str8]

section
variable {P : Program} {md : Region.Mode} {ops : Array Oper} {Q : Exit → Act → World → Prop} {S : World → Prop} {k0 : Nat}
/-- As tkE, where the last operation waits for each at first hand: a long region's ways are not searched. -/
theorem tk1 {i : Nat} {oi : Oper} {v : Value} {a2 : Act} {fuel : Nat} {listed : Array Bool} {a : Act} {w : World} (hi : ops[i]? = some oi) (hS : S w) (h : wpAnyE P md ops Q S k0 fuel (listed.setIfInBounds i true) a2 w)
    (hs : Region.noSelect ops = true := by kernel_rfl) (hf : Region.free md ops listed i = true := by kernel_rfl) (hr : (Region.ready md ops listed).contains i = true := by kernel_rfl) (hl : legalB md ops listed = true := by kernel_rfl) (hlead : leadsB md ops 1 k0 i = true := by kernel_rfl)
    (hQ : ∀ c a w, Q (.panic c) (a.put oi.dst v) w → Q (.panic c) a w := by exact fun _ _ _ h => h)
    (hy : YieldsIf P ops S oi v a := by exact Or.inl ⟨by rfl, by (intro w hSw; (try dsimp only at hSw); (try obtain ⟨hSw1, hSw2, hSw3⟩ := hSw); go_simp <;> with_reducible rfl)⟩)
    (hp : a.put oi.dst v = a2 := by (simp only [Act.put, List.getElem_toArray, List.getElem_cons_zero, List.getElem_cons_succ, List.setIfInBounds_toArray, List.set_cons_zero, List.set_cons_succ]; rfl)) : wpAnyE P md ops Q S k0 (fuel + 1) listed a w := by
  subst hp
  exact wpAnyE_first hi (Region.noSelect_spec hs) hlead hQ fuel listed a w (legalB_spec hl) (Region.free_spec hi hf) (by simpa using hr) hy hS h
end

theorem field_end (a b c : Value) (ha : a.oneCell' = true) (hb : b.oneCell' = true) (hc : c.oneCell' = true) (w : World) : (Instr.field 31 (.agg #[a, b, c]) 2).run Tryd.prog w = .ok c w := by
  simp [Instr.field, Go.part, asAgg, go_sem, Tryd.underlying31]

theorem none_point : testP 5 ⟨0, 0, []⟩ = noneP := rfl

set_option maxHeartbeats 4000000 in
theorem small15_any (w : World) (ht : TstAt w) : Calls Tryd.prog 7 #[] w fun e w' => e = .returned (.bool true) ∧ Below w.heap.size w w' := by
  go_enter Tryd.func7, Tryd.ntmps7
  go_wp2_with fail
  refine (lawNum_any _ _).mono ?_
  rintro e w1 ⟨rfl, hb1⟩
  go_wp2_with fail
  obtain ⟨A1, hA1, hbA1, hzA1, hcA1⟩ := box8 w1 (.cells #[.int .i64 2, .int .i64 0, .string ⟨#[]⟩, .string ⟨#[]⟩, .int .i64 1, .int .i64 0, .string (str8 []), .slice none 0 0] 26)
  rw [hA1]
  clear hA1
  have HB1 := hid (hb1.trans (hbA1.mono hb1.size))
  have HC1 := hid hcA1
  clear hb1 hbA1 hcA1
  refine (lawNum_any _ _).mono ?_
  rintro e w2 ⟨rfl, hb2⟩
  have hb12 := hb2.trans ((new_alloc w2 (.cells #[.int .i64 1, .int .i64 0, .string ⟨#[]⟩, .string ⟨#[]⟩, .int .i64 1, .int .i64 5, .string (str8 []), .slice none 0 0] 26)).mono hb2.size)
  have HC2 := hid ((hb12.block _ hzA1).trans HC1.out)
  have c1 := cells8 HC2.out
  have c2 := cells8 (heap_alloc_new w2 (.cells #[.int .i64 1, .int .i64 0, .string ⟨#[]⟩, .string ⟨#[]⟩, .int .i64 1, .int .i64 5, .string (str8 []), .slice none 0 0] 26))
  have HB2 := htr HB1 hb12
  have HZ2 := hid (show w1.heap.size < (w2.alloc (.cells #[.int .i64 1, .int .i64 0, .string ⟨#[]⟩, .string ⟨#[]⟩, .int .i64 1, .int .i64 5, .string (str8 []), .slice none 0 0] 26)).heap.size from Nat.lt_of_lt_of_le hzA1 hb12.size)
  clear hb2 hb12 HB1 HC1 hzA1
  go_wp2_with fail
  clear c1 c2
  obtain ⟨A2, hA2⟩ : ∃ A, w2.alloc (.cells #[.int .i64 1, .int .i64 0, .string ⟨#[]⟩, .string ⟨#[]⟩, .int .i64 1, .int .i64 5, .string (str8 []), .slice none 0 0] 26) = A := ⟨_, rfl⟩
  have hz2 : A2.heap.size = w2.heap.size + 1 := by rw [← hA2]; exact World.size_alloc _ _
  rw [hA2] at HC2 HB2 HZ2 ⊢
  clear hA2
  obtain ⟨A3, hA3, hbA3, hzA3, hcA3⟩ := box8 A2 (.cells #[.int .i64 2, .int .i64 0, .string ⟨#[]⟩, .string ⟨#[]⟩, .int .i64 1, .int .i64 0, .string (str8 []), .slice none 0 0, .int .i64 1, .int .i64 0, .string ⟨#[]⟩, .string ⟨#[]⟩, .int .i64 1, .int .i64 5, .string (str8 []), .slice none 0 0] 26)
  rw [hA3]
  clear hA3
  have HB3 := htr HB2 hbA3
  have HC3 := hid ((hbA3.block _ HZ2.out).trans HC2.out)
  have HZ3 := hid (show w1.heap.size < A3.heap.size from Nat.lt_of_lt_of_le HZ2.out hbA3.size)
  have HP1 := pspan_any 0 2 (fun b => b < A3.heap.size) (pointX 3 0 ⟨1, 5, []⟩) _ A3 (ht.below HB3.out ht.lt) (rg_point _ _ _ (by decide) ⟨by decide, by decide, by decide⟩) (exv_point 3 0 ⟨1, 5, []⟩ A3 _ A2.heap.size hzA3 hcA3) (few_point _ _ _)
  rw [span_point _ _ _ _ (.inl rfl) (by decide +kernel), hz2] at HP1
  refine HP1.mono ?_
  clear HP1 hbA3 hcA3 HC2 HB2 HZ2
  rintro e w4 ⟨fv, tv, rfl, hf4, ht4, hap4, hb4⟩
  have e3 : testP 3 ⟨1, 5, []⟩ = ⟨keyV ⟨1, 5, []⟩, keyV ⟨1, 5, []⟩ ++ [0], true⟩ := rfl
  rw [e3] at hf4 ht4
  have hlen : (keyV ⟨1, 5, []⟩).length ≤ 100 := keyV_le (by decide +kernel)
  have ko : keyOfV ⟨1, 5, []⟩ = keyV ⟨1, 5, []⟩ := if_pos (by decide +kernel)
  have kr : ((rightV ⟨1, 5, []⟩ : Nat) : Int) = 0 := by decide +kernel
  have HK6 := fun V => key_any 1 5 [] V (by decide)
  rw [ko, kr] at HK6
  rw [show (testP 3 ⟨1, 5, []⟩).en = true from rfl]
  clear e3 ko kr hap4
  generalize keyV ⟨1, 5, []⟩ = K at *
  obtain ⟨K2, hK2⟩ : ∃ K2, K ++ [0] = K2 := ⟨_, rfl⟩
  rw [hK2] at ht4
  have HK2 := hid hK2
  clear hK2
  dsimp only at hf4 ht4
  obtain ⟨a4, c4, rfl⟩ := hf4.form
  obtain ⟨b4, d4, rfl⟩ := ht4.form
  have HK := hid HK6
  clear HK6
  go_wp2_with fail
  obtain ⟨A4, hA4, hbA4, hzA4, hcA4⟩ := box8 w4 (.cells #[.slice a4 K.length c4, .slice b4 K2.length d4, .bool true] 31)
  rw [hA4]
  clear hA4
  have HF4 := hid (hf4.new hbA4)
  have HT4 := hid (ht4.new hbA4)
  have hb34 := hb4.trans (hbA4.mono hb4.size)
  have HB4 := htr HB3 hb34
  have HC4 := hid ((hb34.block _ HZ3.out).trans HC3.out)
  have HS4 := hid hcA4
  have HZ4 := hid (show w1.heap.size < A4.heap.size from Nat.lt_of_lt_of_le HZ3.out hb34.size)
  have HY4 := hid hzA4
  clear hb4 hbA4 hcA4 hf4 ht4 hb34 HB3 HC3 HZ3 hzA4
  refine (lawNum_any _ _).mono ?_
  rintro e w5 ⟨rfl, hb5⟩
  go_wp2_with fail
  refine (HK.out w5).mono ?_
  clear HK
  rintro e w6 ⟨kv, rfl, hk6, hb6⟩
  have hb56 := hb5.trans (hb6.mono hb5.size)
  have HC6 := hid ((hb56.block _ HZ4.out).trans HC4.out)
  have c1 := cells8 HC6.out
  have HB6 := htr HB4 hb56
  obtain ⟨a6, c6, rfl⟩ : ∃ a c, kv = .slice a K.length c := own_form hk6
  have HK6 := hid (show Copy w5.heap.size w6 (.slice a6 K.length c6) K from hk6)
  have HBA := hid hb56
  clear hb5 hb6 hb56 hk6 HC4 HB4
  go_wp2_with fail
  clear c1
  obtain ⟨A7, hA7, hbA7, hzA7, hcA7⟩ := box8 w6 (.cells #[.int .i64 2, .int .i64 0, .string ⟨#[]⟩, .string ⟨#[]⟩, .int .i64 1, .int .i64 0, .string (str8 []), .slice none 0 0, .int .i64 1, .int .i64 0, .string ⟨#[]⟩, .string ⟨#[]⟩, .int .i64 0, .int .i64 0, .string ⟨#[]⟩, .slice none 0 0] 26)
  rw [hA7]
  clear hA7
  have HB7 := htr HB6 hbA7
  have HP2 := pspan_any 0 2 (fun b => b < A7.heap.size) (pointX 5 0 ⟨0, 0, []⟩) _ A7 (ht.below HB7.out ht.lt) (rg_point _ _ _ (by decide) ⟨by decide, by decide, by decide⟩) (exv_point 5 0 ⟨0, 0, []⟩ A7 _ w6.heap.size hzA7 hcA7) (few_point _ _ _)
  rw [span_point _ _ _ _ (.inr (.inl rfl)) (by decide +kernel), none_point] at HP2
  refine HP2.mono ?_
  clear HP2
  rintro e w8 ⟨f8, t8, rfl, hf8, ht8, hap8, hb8⟩
  obtain ⟨a8, c8, rfl⟩ := hf8.form
  obtain ⟨b8, d8, rfl⟩ := ht8.form
  rw [show noneP.en = true from rfl]
  rw [show noneP.a.length = 0 from rfl] at hf8 ⊢
  rw [show noneP.b.length = 0 from rfl] at ht8 ⊢
  clear hap8
  go_wp2_with fail
  obtain ⟨A8, hA8, hbA8, hzA8, hcA8⟩ := box8 w8 (.cells #[.slice a8 0 c8, .slice b8 0 d8, .bool true] 31)
  rw [hA8]
  clear hA8
  have hb68 : Below w6.heap.size w6 A8 := (hbA7.trans (hb8.mono hbA7.size)).trans (hbA8.mono (Nat.le_trans hbA7.size hb8.size))
  have HSN := hid (fun (V : World) (hb : Below A8.heap.size A8 V) => (show (fun V : World => (V.cell? ⟨w4.heap.size, 0, none⟩ = some (.slice a4 K.length c4) ∧ V.cell? ⟨w4.heap.size, 1, none⟩ = some (.slice b4 K2.length d4) ∧ V.cell? ⟨w4.heap.size, 2, none⟩ = some (.bool true)) ∧ (V.cell? ⟨w8.heap.size, 0, none⟩ = some (.slice a8 0 c8) ∧ V.cell? ⟨w8.heap.size, 1, none⟩ = some (.slice b8 0 d8) ∧ V.cell? ⟨w8.heap.size, 2, none⟩ = some (.bool true)) ∧ ((convert 29 9 (.slice a4 K.length c4)).run Tryd.prog V = .ok (.string (str8 K)) V ∧ (convert 29 9 (.slice b4 K2.length d4)).run Tryd.prog V = .ok (.string (str8 K ++ ⟨#[0]⟩)) V ∧ (convert 29 9 (.slice a6 K.length c6)).run Tryd.prog V = .ok (.string (str8 K)) V)) V from by
    have r4 := row3 ((HBA.out.block _ HY4.out).trans HS4.out)
    have hb' : Below w6.heap.size w6 V := hb68.trans (hb.mono hb68.size)
    have hlt : w4.heap.size < w6.heap.size := Nat.lt_of_lt_of_le HY4.out HBA.out.size
    have r8 := row3 hcA8
    have k1 := str4 (shows_of_owns ((HF4.out.new HBA.out).new hb')).2
    have k2 := str4 (shows_of_owns ((HT4.out.new HBA.out).new hb')).2
    have k3 := str4 (shows_of_owns (HK6.out.new hb')).2
    have hs2 : str8 K2 = str8 K ++ ⟨#[0]⟩ := by
      rw [← HK2.out]
      exact str8_snoc0 K
    rw [hs2] at k2
    exact ⟨⟨(hb'.cell (p := ⟨w4.heap.size, 0, none⟩) hlt).trans r4.1, (hb'.cell (p := ⟨w4.heap.size, 1, none⟩) hlt).trans r4.2.1, (hb'.cell (p := ⟨w4.heap.size, 2, none⟩) hlt).trans r4.2.2.1⟩,
      ⟨(hb.cell (p := ⟨w8.heap.size, 0, none⟩) hzA8).trans r8.1, (hb.cell (p := ⟨w8.heap.size, 1, none⟩) hzA8).trans r8.2.1, (hb.cell (p := ⟨w8.heap.size, 2, none⟩) hzA8).trans r8.2.2.1⟩, k1, k2, k3⟩))
  have HN1 := hid (hf8.says.new hbA8)
  have HN2 := hid (ht8.says.new hbA8)
  have HB8 := htr HB6 hb68
  clear hbA7 hb8 hbA8 hf8 ht8 hcA8 hzA8 hcA7 hzA7 HY4 HS4 HF4 HT4 HK6 HBA HC6 HB6 HB7
  have hd : Below A8.heap.size A8 A8.drew := (Below.refl _ A8).drew
  have hS0 := HSN.out _ hd
  have hfa := field_end (.slice none 0 0) (.slice none 0 0) (.bool false) rfl rfl rfl
  have hfn := field_end (.slice none 0 0) (.slice none 0 0) (.bool true) rfl rfl rfl
  have hzs : ¬ (9223372036854775807 < (str8 K).size + 1) := by rw [str8_size]; omega
  refine last_region (fun V : World => (V.cell? ⟨w4.heap.size, 0, none⟩ = some (.slice a4 K.length c4) ∧ V.cell? ⟨w4.heap.size, 1, none⟩ = some (.slice b4 K2.length d4) ∧ V.cell? ⟨w4.heap.size, 2, none⟩ = some (.bool true)) ∧ (V.cell? ⟨w8.heap.size, 0, none⟩ = some (.slice a8 0 c8) ∧ V.cell? ⟨w8.heap.size, 1, none⟩ = some (.slice b8 0 d8) ∧ V.cell? ⟨w8.heap.size, 2, none⟩ = some (.bool true)) ∧ ((convert 29 9 (.slice a4 K.length c4)).run Tryd.prog V = .ok (.string (str8 K)) V ∧ (convert 29 9 (.slice b4 K2.length d4)).run Tryd.prog V = .ok (.string (str8 K ++ ⟨#[0]⟩)) V ∧ (convert 29 9 (.slice a6 K.length c6)).run Tryd.prog V = .ok (.string (str8 K)) V)) 37 (by kernel_rfl) ?_
  refine tk1 (i := 0) rfl (by assumption) ?_
  refine tk1 (i := 1) rfl (by assumption) ?_
  refine tk1 (i := 2) rfl (by assumption) ?_
  refine tk1 (i := 3) rfl (by assumption) ?_
  refine tk1 (i := 4) rfl (by assumption) ?_
  refine tk1 (i := 5) rfl (by assumption) ?_
  refine tk1 (i := 6) rfl (by assumption) ?_
  refine tk1 (i := 7) rfl (by assumption) ?_
  refine tk1 (i := 8) rfl (by assumption) ?_
  refine tk1 (i := 9) rfl (by assumption) ?_
  refine tk1 (i := 10) rfl (by assumption) ?_
  refine tk1 (i := 11) rfl (by assumption) ?_
  refine tk1 (i := 12) rfl (by assumption) ?_
  refine tk1 (i := 13) rfl (by assumption) ?_
  refine tk1 (i := 14) rfl (by assumption) ?_
  refine tk1 (i := 15) rfl (by assumption) ?_
  refine tk1 (i := 16) rfl (by assumption) ?_
  refine tk1 (i := 17) rfl (by assumption) ?_
  refine tk1 (i := 18) rfl (by assumption) ?_
  refine tk1 (i := 19) rfl (by assumption) ?_
  refine tk1 (i := 20) rfl (by assumption) ?_
  refine tk1 (i := 21) rfl (by assumption) ?_
  refine tk1 (i := 22) rfl (by assumption) ?_
  refine tk1 (i := 23) rfl (by assumption) ?_
  refine tk1 (i := 24) rfl (by assumption) ?_
  refine takeE_callw (i := 25) #[] (fun u w' => u = .agg #[.slice none 0 0, .slice none 0 0, .bool true] ∧ Below A8.drew.heap.size A8.drew w') (by kernel_rfl) rfl (by rfl) rfl (by kernel_rfl) (enters_of Tryd.func19 (by kernel_rfl) rfl) ((pnone_any _).mono fun e w' ⟨h1, h2⟩ => ⟨_, h1, rfl, h2⟩) ?_
  rintro u9 w9 ⟨rfl, hb9⟩
  have HW9 := hid (hd.trans (hb9.mono hd.size))
  have hS9 := HSN.out _ HW9.out
  refine ⟨hS9, ?_⟩
  simp only [Act.put, List.getElem_toArray, List.getElem_cons_zero, List.getElem_cons_succ, List.setIfInBounds_toArray, List.set_cons_zero, List.set_cons_succ]
  clear hb9 hS0
  have HSM := ysame_any (.slice a8 0 c8) (.slice b8 0 d8) (.slice none 0 0) (.slice none 0 0) true true noneP.a noneP.b [] [] w9 (HN1.out.new HW9.out) (HN2.out.new HW9.out) (says_nil _) (says_nil _)
  rw [show (decide (noneP.a = []) && (decide (noneP.b = []) && decide (true = true))) = true from rfl] at HSM
  refine takeE_callw (i := 26) #[.agg #[.slice a8 0 c8, .slice b8 0 d8, .bool true], .agg #[.slice none 0 0, .slice none 0 0, .bool true]] (fun u w' => u = .bool true ∧ Below w9.heap.size w9 w') (by kernel_rfl) rfl (by rfl) rfl (by kernel_rfl) (enters_of Tryd.func10 (by kernel_rfl) rfl) (HSM.mono fun e w' ⟨h1, h2⟩ => ⟨_, h1, rfl, h2⟩) ?_
  rintro u10 w10 ⟨rfl, hb10⟩
  have HW10 := htr HW9 hb10
  have hS10 := HSN.out _ HW10.out
  refine ⟨hS10, ?_⟩
  simp only [Act.put, List.getElem_toArray, List.getElem_cons_zero, List.getElem_cons_succ, List.setIfInBounds_toArray, List.set_cons_zero, List.set_cons_succ]
  clear hb10 hS9
  clear HSM
  refine tk1 (i := 27) rfl (by assumption) ?_
  refine tk1 (i := 28) rfl (by assumption) ?_
  refine takeE_callw (i := 29) #[] (fun u w' => u = .agg #[.slice none 0 0, .slice none 0 0, .bool false] ∧ Below w10.heap.size w10 w') (by kernel_rfl) rfl (by rfl) rfl (by kernel_rfl) (enters_of Tryd.func18 (by kernel_rfl) rfl) ((pall_any _).mono fun e w' ⟨h1, h2⟩ => ⟨_, h1, rfl, h2⟩) ?_
  rintro u11 w11 ⟨rfl, hb11⟩
  have HW11 := htr HW10 hb11
  have hS11 := HSN.out _ HW11.out
  refine ⟨hS11, ?_⟩
  simp only [Act.put, List.getElem_toArray, List.getElem_cons_zero, List.getElem_cons_succ, List.setIfInBounds_toArray, List.set_cons_zero, List.set_cons_succ]
  clear hb11 hS10
  refine tk1 (i := 30) rfl (by assumption) ?_
  refine tk1 (i := 31) rfl (by assumption) ?_
  refine tk1 (i := 32) rfl (by assumption) ?_
  refine tk1 (i := 33) rfl (by assumption) ?_
  refine takeE_callw (i := 34) #[] (fun u w' => u = .agg #[.slice none 0 0, .slice none 0 0, .bool true] ∧ Below w11.heap.size w11 w') (by kernel_rfl) rfl (by rfl) rfl (by kernel_rfl) (enters_of Tryd.func19 (by kernel_rfl) rfl) ((pnone_any _).mono fun e w' ⟨h1, h2⟩ => ⟨_, h1, rfl, h2⟩) ?_
  rintro u12 w12 ⟨rfl, hb12⟩
  have HW12 := htr HW11 hb12
  have hS12 := HSN.out _ HW12.out
  refine ⟨hS12, ?_⟩
  simp only [Act.put, List.getElem_toArray, List.getElem_cons_zero, List.getElem_cons_succ, List.setIfInBounds_toArray, List.set_cons_zero, List.set_cons_succ]
  clear hb12 hS11
  refine tk1 (i := 35) rfl (by assumption) ?_
  refine tk1 (i := 36) rfl (by assumption) ?_
  refine takeE_value (i := 37) (by kernel_rfl) rfl rfl (v := .bool true) (by go_simp <;> with_reducible rfl) hS12 ?_
  simp only [Act.put, List.getElem_toArray, List.getElem_cons_zero, List.getElem_cons_succ, List.setIfInBounds_toArray, List.set_cons_zero, List.set_cons_succ]
  refine wpAnyE_done (by kernel_rfl) ?_ _
  show Only _ .normal _ _
  unfold Only
  go_wp2_with fail
  go_ret
  exact ⟨rfl, HB8.out.trans (HW12.out.mono HB8.out.size)⟩
end Go.Proofs.YthjgbcbgkafgjaaDoor
