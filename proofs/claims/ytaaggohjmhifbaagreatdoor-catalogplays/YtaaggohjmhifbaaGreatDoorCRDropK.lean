/- The document's catalog: Drop. -/
import Derived.Test.YtaaggohjmhifbaaGreatDoorCRFindK
namespace Go.Proofs.YtaaggohjmhifbaaGreatDoor
open Go.RowKit Go.Shelf Go.Lib
set_option linter.unusedVariables false
set_option linter.unusedSimpArgs false
set_option maxRecDepth 20000
theorem box1 {w : World} {b : Nat} {a0 : Value} {t : TypeId} (h : w.heap[b]? = some (.cells #[a0] t)) (v : Value) :
    ∃ X, w.setCell ⟨b, 0, none⟩ v = X ∧ X.heap[b]? = some (.cells #[v] t) ∧ Spares (fun k => k = b) w X := by
  refine ⟨_, rfl, ?_, (Spares.refl (fun k => k = b) w).own _ _⟩
  rw [setCell_eq_setRow w b 0 _ t _ v h, setRow_heap w b _ _ t _ h]
  simp only [List.setIfInBounds_toArray, List.set_cons_zero]
theorem cell1f {w : World} {g : Nat} {a : Value} {t : TypeId} (h : w.heap[g]? = some (.cells #[a] t)) : w.cell? ⟨g, 0, none⟩ = some a ∧ ∀ i, w.frozen? ⟨g, i, none⟩ = false :=
  ⟨by rw [cell_row _ _ _ _ _ _ h]; rfl, fun i => by simp [World.frozen?, h]⟩
set_option maxHeartbeats 2000000 in
theorem rdrop_any (rb : Nat) (v : Value) (css : List (List Value)) (T : List Tb) (D : Nat → Prop) (nm : List UInt8) (w : World) (h : DocAt w rb v css T D) :
    Calls Tryz.prog 24 #[.pointer (some ⟨rb, 0, none⟩), .string (str8 nm)] w fun e w' => e = .returned (.int .i64 (if nm ∈ T.map Tb.nm then 0 else 11)) ∧ (∃ v' css' D', DocAt w' rb v' css' (dropT T nm) D' ∧ ∀ b, D' b → D b ∨ (w.heap.size ≤ b ∧ b < w'.heap.size)) ∧ Spares (fun k => k = rb) w w' := by
  have HAT := hid (rat_any D T nm rb v w h.cell h.sl)
  have HD := hid h
  have HR := hid h.ris
  by_cases hm : nm ∈ T.map Tb.nm
  · rw [if_pos hm]
    obtain ⟨t, ht, rfl⟩ := List.mem_map.1 hm
    have hne : T ≠ [] := fun e => by rw [e] at ht; cases ht
    have hl6 := h.six
    obtain ⟨g, cap, rfl, hlc, hcm⟩ : ∃ g cap, v = .slice (some ⟨g, 0, none⟩) T.length cap ∧ T.length ≤ cap ∧ cap ≤ maxLen := by
      rcases h.own.2 with ⟨_, h1⟩ | ⟨g, cap, cur, e, _, _, h1, h2, _⟩
      · exact absurd (List.eq_nil_of_length_eq_zero h1) hne
      · exact ⟨g, cap, e, h1, h2⟩
    obtain ⟨b, off, c, hv, _, _, hel⟩ := h.sl.opened (by decide) hne
    simp only [Value.slice.injEq, Option.some.injEq, Addr.mk.injEq] at hv
    obtain ⟨⟨rfl, rfl, _⟩, _, rfl⟩ := hv
    unfold maxLen at hcm
    have HEL := hid hel
    have HTI := hid ht
    have kR := cell1f h.box
    obtain ⟨Q1, hQ1⟩ : ∃ Q1, dropT T t.nm = Q1 := ⟨_, rfl⟩
    rw [hQ1]
    have HQ := hid hQ1
    clear h hm ht hel hne hQ1
    go_enter Tryz.func24, Tryz.ntmps24
    go_wp2_with fail
    refine HAT.out.mono ?_
    rintro e w1 ⟨k, rfl, hat, hw1⟩
    obtain rfl : w = w1 := hw1.symm
    have hx := at_in HR.out hat HTI.out rfl
    have hk : k < T.length := (List.getElem?_eq_some_iff.1 hx).1
    obtain ⟨cs, hE, hcl⟩ := HEL.out k t hx
    obtain ⟨aa, nn, cc, rfl, _⟩ := hE
    have p0 := hcl w (Below.refl _ _) 0 _ rfl
    rw [Nat.add_zero, Nat.zero_add] at p0
    have hcut := cut_drop HR.out hat hx rfl
    rw [HQ.out] at hcut
    have hd := HD.out
    have hl3 := els_len hd.els
    have hcl3 := hd.els.1
    obtain ⟨x1, y1, z1, e1, a2, n2, c2, w2, hr2, ho2, hB2⟩ := pre_part hd (Nat.le_of_lt hk)
    have hd2 := hd.new hB2
    obtain ⟨x2, y2, z2, e2, a3, n3, c3, w3, hr3, ho3, hs3⟩ := post_part hd2 (k := k + 1) (by omega) ho2 (by omega) hB2.size
    rw [Int.natCast_add, Int.natCast_one] at e2
    have hB3 : Below w.heap.size w w3 := hB2.trans (hs3.below (fun i hi => (ho2.lt i hi).1) hB2.size)
    have hrb : rb < w.heap.size := World.lt_of_block hd.box
    have kR2 := cell1f hd2.box
    have hbox3 := (hB3.block rb hrb).trans hd.box
    have kR3 := cell1f hbox3
    obtain ⟨X, hX, hcX, hsX⟩ := box1 hbox3 (.slice a3 n3 c3)
    have hSX : Spares (fun k => k = rb) w X := (Spares.of_new (S := fun k => k = rb) hB3).andThen hsX (fun i hi => .inl hi)
    have hls : Q1.length = k + (T.length - (k + 1)) := by rw [hcut, List.length_append, List.length_take, List.length_drop, Nat.min_eq_left (by omega)]
    have HF : Hid (DocAt X rb (.slice a3 n3 c3) (css.take k ++ css.drop (k + 1)) Q1 (fun b => D b ∨ (w.heap.size ≤ b ∧ b < X.heap.size))) := hid (hd.put hcX (by rw [hls]; exact hsX.row ho3 (fun b hb e => by have := (ho3.lt b hb).1; omega)) (by
      rw [hcut]
      refine Els.to (S := D) (w := w) (Els.append' (hd.els.take k) (hd.els.drop (k + 1))) (fun x cs e => e.to hSX (fun b hb _ => ⟨fun e2 => hd.ne (e2 ▸ hb), .inl hb⟩)) ) hSX.size (by rw [hcut]; exact ris_cut HR.out k) (fun x hx => hd.ok x (by rw [hcut] at hx; rcases List.mem_append.1 hx with h1 | h1; exact List.mem_of_mem_take h1; exact List.mem_of_mem_drop h1)) (by rw [hls]; omega))
    have HSX := hid hSX
    have HR2 := hid hr2
    have HR3 := hid hr3
    have hk1 : ((k : Int) == (T.length : Int)) = false := by
      have : (k : Int) ≠ (T.length : Int) := by omega
      simpa using this
    have hk2 : (k : Int) < (T.length : Int) := by omega
    have hnmq : ((str8 t.nm).toList == (str8 t.nm).toList) = true := by simp
    clear hat hx hcl HAT hcut hd hl3 hcl3 hr2 ho2 hB2 hd2 hr3 ho3 hs3 hB3 hbox3 hcX hsX hSX hls
    go_wp2_with (first
      | (at_builtin; refine wpList_append_run _ rfl (.tmp 29) (.tmp 35) 56 rfl _ _ _ _ rfl rfl HR2.out ?_)
      | (at_builtin; refine wpList_append_run _ rfl (.tmp 38) (.tmp 45) 56 rfl _ _ _ _ rfl rfl HR3.out ?_))
    try rw [hX]
    go_ret
    exact ⟨rfl, ⟨_, _, _, HF.out, fun b hb => hb⟩, HSX.out⟩
  · rw [if_neg hm]
    have hd0 : dropT T nm = T := by
      unfold dropT
      rw [List.filter_eq_self]
      intro x hx
      exact decide_eq_true (fun e2 => hm (by rw [← e2]; exact List.mem_map.2 ⟨x, hx, rfl⟩))
    rw [hd0]
    have HM := hid hm
    have kR := cell1f h.box
    obtain ⟨a1, c1, rfl⟩ := h.sl.form
    clear h hm hd0
    go_enter Tryz.func24, Tryz.ntmps24
    go_wp2_with fail
    refine HAT.out.mono ?_
    rintro e w1 ⟨k, rfl, hat, hw1⟩
    obtain rfl : w = w1 := hw1.symm
    by_cases hk : k = T.length
    · have hk1 : ((k : Int) == (T.length : Int)) = true := by simp [hk]
      clear hat hk HAT
      go_wp2
      go_ret
      exact ⟨rfl, ⟨_, _, _, HD.out, fun b hb => .inl hb⟩, Spares.refl _ _⟩
    · have hkl : k < T.length := Nat.lt_of_le_of_ne hat.1 hk
      have hk1 : ((k : Int) == (T.length : Int)) = false := by
        have : (k : Int) ≠ (T.length : Int) := by omega
        simpa using this
      have hk2 : (k : Int) < (T.length : Int) := by omega
      obtain ⟨x, hx⟩ : ∃ x, T[k]? = some x := ⟨_, List.getElem?_eq_getElem hkl⟩
      have hnx : x.nm ≠ nm := fun e => HM.out (List.mem_map.2 ⟨x, List.mem_of_getElem? hx, e⟩)
      have hnmq : ((str8 x.nm).toList == (str8 nm).toList) = false := by rw [str8_toList, str8_toList]; simp [hnx]
      obtain ⟨b, off, c, hv, hlc, hcm, hel⟩ := HD.out.sl.opened (by decide) (fun e => by rw [e] at hkl; exact absurd hkl (Nat.not_lt_zero _))
      simp only [Value.slice.injEq] at hv
      obtain ⟨rfl, _, rfl⟩ := hv
      unfold maxLen at hcm
      obtain ⟨cs, hE, hcl⟩ := hel k x hx
      obtain ⟨aa, nn, cc, rfl, _⟩ := hE
      have p0 := hcl w (Below.refl _ _) 0 _ rfl
      rw [Nat.add_zero] at p0
      clear hat hk HAT hel hcl hx hnx
      go_wp2
      go_ret
      exact ⟨rfl, ⟨_, _, _, HD.out, fun b hb => .inl hb⟩, Spares.refl _ _⟩
end Go.Proofs.YtaaggohjmhifbaaGreatDoor
