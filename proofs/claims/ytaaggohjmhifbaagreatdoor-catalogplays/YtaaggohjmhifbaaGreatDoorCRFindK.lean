/- The document's catalog: New, Find, Drop. -/
import Derived.Test.YtaaggohjmhifbaaGreatDoorCRCatK
namespace Go.Proofs.YtaaggohjmhifbaaGreatDoor
open Go.RowKit Go.Shelf Go.Lib
set_option linter.unusedVariables false
set_option linter.unusedSimpArgs false
set_option maxRecDepth 20000
set_option maxHeartbeats 1000000 in
theorem rnew_any (w : World) : Calls Tryz.prog 19 #[] w fun e w' => e = .returned (.pointer (some ⟨w.heap.size, 0, none⟩)) ∧ DocAt w' w.heap.size (.slice none 0 0) [] [] (fun _ => False) ∧ Below w.heap.size w w' := by
  obtain ⟨W, hW, hbW, hzW, hcW⟩ := box8 w (.cells #[.slice none 0 0] 60)
  have HD : Hid (DocAt W w.heap.size (.slice none 0 0) [] [] (fun _ => False)) := hid ⟨hcW, World.ownsRow_nil _ _ _ _, Els.nil, (fun b hb => by cases hb), (fun b hb => hb.elim), id, List.Pairwise.nil, (fun t ht => by cases ht), by decide⟩
  have HB := hid hbW
  clear hbW hcW
  go_enter Tryz.func19, Tryz.ntmps19
  go_wp2
  try rw [hW]
  go_ret
  exact ⟨rfl, HD.out, HB.out⟩
set_option maxHeartbeats 2000000 in
theorem rfind_any (rb : Nat) (v : Value) (css : List (List Value)) (T : List Tb) (D : Nat → Prop) (nm : List UInt8) (w : World) (h : DocAt w rb v css T D) :
    Calls Tryz.prog 26 #[.pointer (some ⟨rb, 0, none⟩), .string (str8 nm)] w fun e w' => ∃ ds : List Value, e = .returned (.tuple #[.agg ds.toArray, .bool (decide (nm ∈ T.map Tb.nm))]) ∧ TbO w.heap.size w' (findT T nm) ds ∧ Below w.heap.size w w' := by
  obtain ⟨W, hW, hbW, hzW, hcW⟩ := box8 w (.cells #[.string ⟨#[]⟩, .slice none 0 0, .int .i64 0] 31)
  have hD := h.new hbW
  have HAT := hid (rat_any D T nm rb v W hD.cell hD.sl)
  have hcR := hD.cell
  have HB := hid hbW
  have HCW := hid hcW
  have HD := hid hD
  have HR := hid h.ris
  have kZ := cells3f hcW
  have HT0 := hid (setCell_same kZ.1)
  have HT1 := hid (setCell_same kZ.2.1)
  have HT2 := hid (setCell_same kZ.2.2.1)
  obtain ⟨a1, c1, rfl⟩ := h.sl.form
  by_cases hm : nm ∈ T.map Tb.nm
  · rw [decide_eq_true hm]
    obtain ⟨t, ht, rfl⟩ := List.mem_map.1 hm
    rw [findT_in h.ris.once ht]
    have h8 := (may_short (h.ok t ht)).1.2.1
    have HTI := hid ht
    have hne : T ≠ [] := fun e => by rw [e] at ht; cases ht
    obtain ⟨b, off, c, hv, hlc, hcm, hel⟩ := hD.sl.opened (by decide) hne
    simp only [Value.slice.injEq] at hv
    obtain ⟨rfl, _, rfl⟩ := hv
    unfold maxLen at hcm
    have HEL := hid hel
    clear h hD hbW hcW hm ht hel hne kZ
    go_enter Tryz.func26, Tryz.ntmps26
    go_wp2_with fail
    try rw [hW]
    refine HAT.out.mono ?_
    rintro e w1 ⟨k, rfl, hat, hw1⟩
    obtain rfl : W = w1 := hw1.symm
    have hx := at_in HR.out hat HTI.out rfl
    have hk : k < T.length := (List.getElem?_eq_some_iff.1 hx).1
    obtain ⟨cs, hE, hcl⟩ := HEL.out k t hx
    have HCO := hid (copied11_any D t cs W hE (by omega))
    obtain ⟨aa, nn, cc, rfl, _⟩ := hE
    have p0 := hcl W (Below.refl _ _) 0 _ rfl
    have p1 := hcl W (Below.refl _ _) 1 _ rfl
    have p2 := hcl W (Below.refl _ _) 2 _ rfl
    rw [Nat.add_zero] at p0
    have hk1 : ((k : Int) == (T.length : Int)) = false := by
      have : (k : Int) ≠ (T.length : Int) := by omega
      simpa using this
    have hk2 : (k : Int) < (T.length : Int) := by omega
    have hnmq : ((str8 t.nm).toList == (str8 t.nm).toList) = true := by simp
    clear hat hx hcl HAT hW
    go_wp2_with fail
    refine HCO.out.mono ?_
    rintro e w3 ⟨ds, rfl, hds, hb3⟩
    have hs3 := hb3.size
    obtain ⟨a3, n3, c3, rfl, hown⟩ := hds
    have k3 := cells3f ((hb3.block w.heap.size (by omega)).trans HCW.out)
    have HB3 := hid (HB.out.trans (hb3.mono HB.out.size))
    have HOW := hid hown
    clear hb3 hown HCO p0 p1 p2
    go_wp2
    have hSp : Spares (fun k => k = w.heap.size) w3 (((w3.setCell ⟨w.heap.size, 0, none⟩ (.string (str8 t.nm))).setCell ⟨w.heap.size, 1, none⟩ (.slice a3 n3 c3)).setCell ⟨w.heap.size, 2, none⟩ (.int .i64 t.pr)) := (((Spares.refl (fun k => k = w.heap.size) w3).own _ _).own _ _).own _ _
    have hB : Below w.heap.size w (((w3.setCell ⟨w.heap.size, 0, none⟩ (.string (str8 t.nm))).setCell ⟨w.heap.size, 1, none⟩ (.slice a3 n3 c3)).setCell ⟨w.heap.size, 2, none⟩ (.int .i64 t.pr)) := HB3.out.trans (hSp.below (fun i hi => by omega) HB3.out.size)
    refine bodyPost_ret (v := .tuple #[.agg #[.string (str8 t.nm), .slice a3 n3 c3, .int .i64 t.pr], .bool true]) (by simp [results, Tryz.results26, go_sem, k3]) rfl ⟨_, rfl, ⟨_, _, _, rfl, ?_⟩, hB⟩
    exact owns_lower (hSp.row HOW.out (fun g hg => by have := (HOW.out.lt g hg).1; omega)) (fun g hg => by have := (HOW.out.lt g hg).1; have := HB.out.size; omega)
  · rw [decide_eq_false hm, findT_out hm]
    have HM := hid hm
    clear h hbW hcW hm
    go_enter Tryz.func26, Tryz.ntmps26
    go_wp2_with fail
    try rw [hW]
    refine HAT.out.mono ?_
    rintro e w1 ⟨k, rfl, hat, hw1⟩
    obtain rfl : W = w1 := hw1.symm
    by_cases hk : k = T.length
    · have hk1 : ((k : Int) == (T.length : Int)) = true := by simp [hk]
      clear hat hk HAT hW hD
      go_wp2
      rw [HT0.out, HT1.out, HT2.out]
      exact bodyPost_ret (v := .tuple #[zTV, .bool false]) (by simp [results, Tryz.results26, go_sem, kZ]) rfl ⟨_, rfl, zTb_own _ _ HB.out.size, HB.out⟩
    · have hkl : k < T.length := Nat.lt_of_le_of_ne hat.1 hk
      have hk1 : ((k : Int) == (T.length : Int)) = false := by
        have : (k : Int) ≠ (T.length : Int) := by omega
        simpa using this
      have hk2 : (k : Int) < (T.length : Int) := by omega
      obtain ⟨x, hx⟩ : ∃ x, T[k]? = some x := ⟨_, List.getElem?_eq_getElem hkl⟩
      have hnx : x.nm ≠ nm := fun e => HM.out (List.mem_map.2 ⟨x, List.mem_of_getElem? hx, e⟩)
      have hnmq : ((str8 x.nm).toList == (str8 nm).toList) = false := by rw [str8_toList, str8_toList]; simp [hnx]
      obtain ⟨b, off, c, hv, hlc, hcm, hel⟩ := hD.sl.opened (by decide) (fun e => by rw [e] at hkl; exact absurd hkl (Nat.not_lt_zero _))
      simp only [Value.slice.injEq] at hv
      obtain ⟨rfl, _, rfl⟩ := hv
      unfold maxLen at hcm
      obtain ⟨cs, hE, hcl⟩ := hel k x hx
      obtain ⟨aa, nn, cc, rfl, _⟩ := hE
      have p0 := hcl W (Below.refl _ _) 0 _ rfl
      rw [Nat.add_zero] at p0
      clear hat hk HAT hW hD hel hcl hx hnx
      go_wp2
      rw [HT0.out, HT1.out, HT2.out]
      exact bodyPost_ret (v := .tuple #[zTV, .bool false]) (by simp [results, Tryz.results26, go_sem, kZ]) rfl ⟨_, rfl, zTb_own _ _ HB.out.size, HB.out⟩
theorem run_tabto (g N c k : Nat) (hk : k ≤ N) (hN : N ≤ c) (w : World) : (Instr.slice 56 (.slice (some ⟨g, 0, none⟩) N c) none (some (.int .i64 (k : Int))) none).run Tryz.prog w = .ok (.slice (some ⟨g, 0, none⟩) k c) w := by
  go_simp
  intro h
  omega
theorem run_tabfrom (g N c k : Nat) (hk : k ≤ N) (hN : N ≤ c) : ∃ a, (k < c → a = (⟨g, k * 3, none⟩ : Addr)) ∧ ∀ w : World, (Instr.slice 56 (.slice (some ⟨g, 0, none⟩) N c) (some (.int .i64 (k : Int))) none none).run Tryz.prog w = .ok (.slice (some a) (N - k) (c - k)) w := by
  by_cases h : k = c
  · subst h
    obtain rfl : N = k := by omega
    refine ⟨⟨g, 0, none⟩, fun h => absurd h (Nat.lt_irrefl _), fun w => ?_⟩
    go_simp
  · refine ⟨⟨g, k * 3, none⟩, fun _ => rfl, fun w => ?_⟩
    go_simp
    intro e
    omega
theorem run_tabnil_to (w : World) : (Instr.slice 56 (.slice none 0 0) none (some (.int .i64 0)) none).run Tryz.prog w = .ok (.slice none 0 0) w := by
  go_simp
theorem run_tabnil_from (w : World) : (Instr.slice 56 (.slice none 0 0) (some (.int .i64 0)) none none).run Tryz.prog w = .ok (.slice none 0 0) w := by
  go_simp
theorem pre_part {w : World} {rb : Nat} {v : Value} {css : List (List Value)} {T : List Tb} {D : Nat → Prop} (h : DocAt w rb v css T D) {k : Nat} (hk : k ≤ T.length) :
    ∃ x1 y1 z1, (∀ W : World, (Instr.slice 56 v none (some (.int .i64 (k : Int))) none).run Tryz.prog W = .ok (.slice x1 y1 z1) W) ∧ ∃ a2 n2 c2 w2, (Builtin.append_ #[56, 56] 56 #[.slice none 0 0, .slice x1 y1 z1]).run Tryz.prog w = .ok (.slice a2 n2 c2) w2 ∧ w2.ownsRow w.heap.size 31 3 (.slice a2 n2 c2) k (css.take k).flatten ∧ Below w.heap.size w w2 := by
  have h6 := h.six
  have hcl := h.els.1
  have hl3 := els_len h.els
  have hown := h.own
  rcases h.own.2 with ⟨rfl, h0⟩ | ⟨g, cap, cur, rfl, hb, hg, hnc, hcm, _⟩
  · obtain rfl : k = 0 := by omega
    refine ⟨none, 0, 0, run_tabnil_to, none, 0, 0, w, append_noTabs (World.ownsRow_nil w 0 _ _) _, ?_, Below.refl _ _⟩
    rw [List.take_zero]
    exact World.ownsRow_nil _ _ _ _
  · obtain ⟨a2, n2, c2, w2, h1, h2, h3⟩ := append_tabs (w := w) (base := w.heap.size) (css := []) (World.ownsRow_nil w w.heap.size _ _) ⟨g, 0, none⟩ k cap (css.take k) (by rw [List.length_take]; omega) (fun ds hds => hl3 ds (List.mem_of_mem_take hds)) (fun j u hu => by
      have := part_cells hown (fun cs hc => (hl3 cs hc).1) 0 k j u (by rw [List.drop_zero]; exact hu)
      rw [Nat.zero_mul] at this
      exact this) (by omega) (Nat.le_refl _) 56
    rw [Nat.zero_add, List.nil_append] at h2
    exact ⟨some ⟨g, 0, none⟩, k, cap, run_tabto g T.length cap k hk hnc, a2, n2, c2, w2, h1, h2, h3.below (fun i hi => by cases hi) (Nat.le_refl _)⟩
theorem post_part {w : World} {rb : Nat} {v : Value} {css : List (List Value)} {T : List Tb} {D : Nat → Prop} (h : DocAt w rb v css T D) {k : Nat} (hk : k ≤ T.length) {base n5 : Nat} {x5 : Option Addr} {y5 z5 : Nat} {dss : List (List Value)} (ho : w.ownsRow base 31 3 (.slice x5 y5 z5) n5 dss.flatten) (hn : n5 ≤ 100) (hb : base ≤ w.heap.size) :
    ∃ x1 y1 z1, (∀ W : World, (Instr.slice 56 v (some (.int .i64 (k : Int))) none none).run Tryz.prog W = .ok (.slice x1 y1 z1) W) ∧ ∃ a2 n2 c2 w2, (Builtin.append_ #[56, 56] 56 #[.slice x5 y5 z5, .slice x1 y1 z1]).run Tryz.prog w = .ok (.slice a2 n2 c2) w2 ∧ w2.ownsRow base 31 3 (.slice a2 n2 c2) (n5 + (T.length - k)) (dss ++ css.drop k).flatten ∧ Spares (fun b => (Value.slice x5 y5 z5).ownBlock = some b) w w2 := by
  have h6 := h.six
  have hcl := h.els.1
  have hl3 := els_len h.els
  have hown := h.own
  rcases h.own.2 with ⟨rfl, h0⟩ | ⟨g, cap, cur, rfl, _, hg, hnc, hcm, _⟩
  · obtain rfl : k = 0 := by omega
    refine ⟨none, 0, 0, run_tabnil_from, x5, y5, z5, w, append_noTabs ho _, ?_, Spares.refl _ _⟩
    obtain rfl : css = [] := List.eq_nil_of_length_eq_zero (by omega)
    rw [List.drop_nil, List.append_nil, h0, Nat.sub_self, Nat.add_zero]
    exact ho
  · obtain ⟨a, ha, hs⟩ := run_tabfrom g T.length cap k hk hnc
    obtain ⟨a2, n2, c2, w2, h1, h2, h3⟩ := append_tabs ho a (T.length - k) (cap - k) (css.drop k) (by rw [List.length_drop]; omega) (fun ds hds => hl3 ds (List.mem_of_mem_drop hds)) (fun j u hu => by
      by_cases hkc : k < cap
      · rw [ha hkc]
        exact part_cells hown (fun cs hc => (hl3 cs hc).1) k (T.length - k) j u (by rw [List.take_of_length_le (by rw [List.length_drop]; omega)]; exact hu)
      · have : css.drop k = [] := List.drop_eq_nil_of_le (by omega)
        rw [this] at hu
        simp at hu) (by omega) hb 56
    exact ⟨some a, T.length - k, cap - k, hs, a2, n2, c2, w2, h1, h2, h3⟩
theorem DocAt.put {w w' : World} {rb : Nat} {v v' : Value} {css css' : List (List Value)} {T T' : List Tb} {D : Nat → Prop} (h : DocAt w rb v css T D) (hbox : w'.heap[rb]? = some (.cells #[v'] 60)) (hown : w'.ownsRow w.heap.size 31 3 v' T'.length css'.flatten)
    (hels : Els 3 TbE (fun b => D b ∨ (w.heap.size ≤ b ∧ b < w'.heap.size)) w' T' css') (hs : w.heap.size ≤ w'.heap.size) (hris : Ris T') (hok : ∀ t ∈ T', mayB t = true) (hsix : T'.length ≤ 6) : DocAt w' rb v' css' T' (fun b => D b ∨ (w.heap.size ≤ b ∧ b < w'.heap.size)) :=
  ⟨hbox, owns_lower hown (fun _ _ => Nat.zero_le _), hels, fun b hb => .inr (hown.lt b hb), fun b hb => hb.elim (fun h1 => Nat.lt_of_lt_of_le (h.lt b h1) hs) (fun h1 => h1.2), fun hb => hb.elim h.ne (fun h1 => by have := World.lt_of_block h.box; omega), hris, hok, hsix⟩
end Go.Proofs.YtaaggohjmhifbaaGreatDoor
