/- The document's catalog in memory; parts of a row of tables appended. -/
import Derived.Test.YtaaggohjmhifbaaGreatDoorP39
import Derived.Test.YtaaggohjmhifbaaGreatDoorP38
namespace Go.Proofs.YtaaggohjmhifbaaGreatDoor
open Go.RowKit Go.Shelf Go.Lib
set_option linter.unusedVariables false
set_option linter.unusedSimpArgs false
set_option maxRecDepth 20000
theorem Ris.once {T : List Tb} (h : Ris T) : (T.map Tb.nm).Nodup := by
  refine List.pairwise_map.2 (h.imp (fun {a b} hl e => ?_))
  rw [e, less_irr] at hl
  cases hl
theorem addE_perm {T L : List Tb} (h : T.Perm L) (t : Tb) : addE T t = addE L t := by
  unfold addE
  rw [h.length_eq]
  have : (t.nm ∈ T.map Tb.nm) = (t.nm ∈ L.map Tb.nm) := propext ((h.map Tb.nm).mem_iff)
  simp only [this]
theorem addL_perm {T L : List Tb} (h : T.Perm L) (t : Tb) : (addL T t).Perm (addL L t) := by
  unfold addL
  rw [addE_perm h t]
  split
  · exact h.cons t
  · exact h
theorem dropE_perm {T L : List Tb} (h : T.Perm L) (nm : List UInt8) : (if nm ∈ T.map Tb.nm then (0 : Int) else 11) = if nm ∈ L.map Tb.nm then 0 else 11 := by
  have : (nm ∈ T.map Tb.nm) = (nm ∈ L.map Tb.nm) := propext ((h.map Tb.nm).mem_iff)
  simp only [this]
theorem findE_perm {T L : List Tb} (h : T.Perm L) (nm : List UInt8) : decide (nm ∈ T.map Tb.nm) = decide (nm ∈ L.map Tb.nm) := by
  rw [decide_eq_decide]
  exact (h.map Tb.nm).mem_iff
theorem findT_perm {T L : List Tb} (h : T.Perm L) (hT : (T.map Tb.nm).Nodup) (hL : (L.map Tb.nm).Nodup) (nm : List UInt8) : findT T nm = findT L nm := by
  by_cases hm : nm ∈ T.map Tb.nm
  · obtain ⟨t, ht, rfl⟩ := List.mem_map.1 hm
    rw [findT_in hT ht, findT_in hL (h.mem_iff.1 ht)]
  · rw [findT_out hm, findT_out (fun h2 => hm ((h.map Tb.nm).mem_iff.2 h2))]
theorem dropT_perm {T L : List Tb} (h : T.Perm L) (nm : List UInt8) : (dropT T nm).Perm (dropT L nm) := h.filter _
theorem at_tells {T : List Tb} {nm : List UInt8} {k : Nat} (hR : Ris T) (h : AtN T nm k) : nm ∈ T.map Tb.nm ↔ ∃ x, T[k]? = some x ∧ x.nm = nm :=
  ⟨fun hm => by obtain ⟨x, hx, e⟩ := List.mem_map.1 hm; exact ⟨x, at_in hR h hx e, e⟩, fun ⟨x, hx, e⟩ => List.mem_map.2 ⟨x, List.mem_of_getElem? hx, e⟩⟩
theorem above {T : List Tb} {nm : List UInt8} {k : Nat} (hR : Ris T) (h : AtN T nm k) (hn : nm ∉ T.map Tb.nm) {y : Tb} (hy : y ∈ T.drop k) : Op.bytesLess nm y.nm = true := by
  obtain ⟨i, hi, rfl⟩ := List.getElem_of_mem hy
  rw [List.getElem_drop]
  rw [List.length_drop] at hi
  have hk : k < T.length := by omega
  have h0 : Op.bytesLess nm (T[k]).nm = true := by
    have h3 := h.2.2 _ (List.getElem?_eq_getElem hk)
    cases h4 : Op.bytesLess nm (T[k]).nm with
    | true => rfl
    | false => exact absurd (List.mem_map.2 ⟨T[k], List.getElem_mem hk, less_tot _ _ h3 h4⟩) hn
  rcases Nat.eq_zero_or_pos i with h1 | h1
  · subst h1; exact h0
  · exact less_tr _ _ _ h0 (List.pairwise_iff_getElem.1 hR k (k + i) hk (by omega) (by omega))
theorem ris_ins {T : List Tb} {t : Tb} {k : Nat} (hR : Ris T) (h : AtN T t.nm k) (hn : t.nm ∉ T.map Tb.nm) : Ris (T.take k ++ t :: T.drop k) ∧ (T.take k ++ t :: T.drop k).Perm (t :: T) := by
  refine ⟨?_, List.perm_middle.trans (by rw [List.take_append_drop])⟩
  unfold Ris
  rw [List.pairwise_append, List.pairwise_cons]
  refine ⟨hR.sublist (List.take_sublist _ _), ⟨fun y hy => above hR h hn hy, hR.sublist (List.drop_sublist _ _)⟩, fun x hx y hy => ?_⟩
  rcases List.mem_cons.1 hy with rfl | hy
  · exact beneath h hx
  · exact less_tr _ _ _ (beneath h hx) (above hR h hn hy)
structure DocAt (w : World) (rb : Nat) (v : Value) (css : List (List Value)) (T : List Tb) (S : Nat → Prop) : Prop where
  box : w.heap[rb]? = some (.cells #[v] 60)
  own : w.ownsRow 0 31 3 v T.length css.flatten
  els : Els 3 TbE S w T css
  inS : ∀ b, v.ownBlock = some b → S b
  lt : ∀ b, S b → b < w.heap.size
  ne : ¬ S rb
  ris : Ris T
  ok : ∀ t ∈ T, mayB t = true
  six : T.length ≤ 6
theorem DocAt.keeps {w w' : World} {rb : Nat} {v : Value} {css : List (List Value)} {T : List Tb} {S R : Nat → Prop} (h : DocAt w rb v css T S) (hk : Spares R w w') (hR : ∀ b, S b → ¬ R b) (hr : ¬ R rb) : DocAt w' rb v css T S :=
  ⟨(hk.block rb (World.lt_of_block h.box) hr).trans h.box, hk.row h.own (fun g hg => hR g (h.inS g hg)), h.els.to (fun _ _ e => e.to hk (fun b hb _ => ⟨hR b hb, hb⟩)), h.inS, fun b hb => Nat.lt_of_lt_of_le (h.lt b hb) hk.size, h.ne, h.ris, h.ok, h.six⟩
theorem DocAt.new {w w' : World} {rb : Nat} {v : Value} {css : List (List Value)} {T : List Tb} {S : Nat → Prop} (h : DocAt w rb v css T S) (hb : Below w.heap.size w w') : DocAt w' rb v css T S :=
  h.keeps (R := fun _ => False) (Spares.of_new hb) (fun _ _ => id) id
theorem DocAt.sl {w : World} {rb : Nat} {v : Value} {css : List (List Value)} {T : List Tb} {S : Nat → Prop} (h : DocAt w rb v css T S) : SlAt 3 TbE S w T v := SlAt.of_owns (by decide) h.own h.els h.inS
theorem DocAt.cell {w : World} {rb : Nat} {v : Value} {css : List (List Value)} {T : List Tb} {S : Nat → Prop} (h : DocAt w rb v css T S) : w.cell? ⟨rb, 0, none⟩ = some v := by rw [cell_row _ _ _ _ _ _ h.box]; rfl
theorem flatten_get : ∀ (css : List (List Value)), (∀ cs ∈ css, cs.length = 3) → ∀ (j : Nat) (u : Value), css.flatten[j]? = some u → ∃ cs, css[j / 3]? = some cs ∧ cs[j % 3]? = some u
  | [], _, j, u, h => by simp at h
  | c :: css, h, j, u, hj => by
    have hc := h c (by simp)
    rw [List.flatten_cons] at hj
    rcases Nat.lt_or_ge j 3 with h3 | h3
    · rw [List.getElem?_append_left (by omega)] at hj
      exact ⟨c, by rw [Nat.div_eq_of_lt h3]; rfl, by rw [Nat.mod_eq_of_lt h3]; exact hj⟩
    · rw [List.getElem?_append_right (by omega), hc] at hj
      obtain ⟨cs, h1, h2⟩ := flatten_get css (fun x hx => h x (by simp [hx])) (j - 3) u hj
      refine ⟨cs, ?_, by rw [show j % 3 = (j - 3) % 3 by omega]; exact h2⟩
      rw [show j / 3 = (j - 3) / 3 + 1 by omega, List.getElem?_cons_succ]
      exact h1
theorem els_len {S : Nat → Prop} {w : World} {T : List Tb} {css : List (List Value)} (h : Els 3 TbE S w T css) : ∀ cs ∈ css, cs.length = 3 ∧ ∀ u ∈ cs, u.oneCell' = true := fun cs hc => by
  obtain ⟨j, hj, e⟩ := List.getElem_of_mem hc
  have hx : T[j]? = some (T[j]'(by rw [← h.1]; exact hj)) := List.getElem?_eq_getElem _
  obtain ⟨h1, aa, nn, cc, h2, _⟩ := h.2 j _ cs hx (by rw [List.getElem?_eq_getElem hj, e])
  refine ⟨h1, fun u hu => ?_⟩
  rw [h2] at hu
  simp only [List.mem_cons, List.not_mem_nil, or_false] at hu
  rcases hu with rfl | rfl | rfl <;> rfl
theorem Els.take {S : Nat → Prop} {w : World} {T : List Tb} {css : List (List Value)} (h : Els 3 TbE S w T css) (k : Nat) : Els 3 TbE S w (T.take k) (css.take k) :=
  ⟨by rw [List.length_take, List.length_take, h.1], fun j x cs hx hc => by
    rw [List.getElem?_take] at hx hc
    split at hx
    · rename_i hj
      rw [if_pos hj] at hc
      exact h.2 j x cs hx hc
    · cases hx⟩
theorem Els.drop {S : Nat → Prop} {w : World} {T : List Tb} {css : List (List Value)} (h : Els 3 TbE S w T css) (k : Nat) : Els 3 TbE S w (T.drop k) (css.drop k) :=
  ⟨by rw [List.length_drop, List.length_drop, h.1], fun j x cs hx hc => by
    rw [List.getElem?_drop] at hx hc
    exact h.2 (k + j) x cs hx hc⟩
theorem Els.append' {S : Nat → Prop} {w : World} {T U : List Tb} {css dss : List (List Value)} (h : Els 3 TbE S w T css) (k : Els 3 TbE S w U dss) : Els 3 TbE S w (T ++ U) (css ++ dss) :=
  ⟨by rw [List.length_append, List.length_append, h.1, k.1], fun j x cs hx hc => by
    rcases Nat.lt_or_ge j T.length with hj | hj
    · rw [List.getElem?_append_left hj] at hx
      rw [List.getElem?_append_left (by rw [h.1]; exact hj)] at hc
      exact h.2 j x cs hx hc
    · rw [List.getElem?_append_right hj] at hx
      rw [List.getElem?_append_right (by rw [h.1]; exact hj), h.1] at hc
      exact k.2 _ x cs hx hc⟩
theorem part_cells {w : World} {base n g cap : Nat} {css : List (List Value)} (h : w.ownsRow base 31 3 (.slice (some ⟨g, 0, none⟩) n cap) n css.flatten) (hc : ∀ cs ∈ css, cs.length = 3) (i m : Nat) : ∀ (j : Nat) (u : Value), ((css.drop i).take m).flatten[j]? = some u → w.cell? ((⟨g, i * 3, none⟩ : Addr).add j) = some u := fun j u hu => by
  obtain ⟨cs, h1, h2⟩ := flatten_get ((css.drop i).take m) (fun x hx => hc x (List.mem_of_mem_drop (List.mem_of_mem_take hx))) j u hu
  rw [List.getElem?_take] at h1
  split at h1
  · rw [List.getElem?_drop] at h1
    have h3 := flatten_at 3 css hc (i + j / 3) (j % 3) cs u h1 h2
    have h4 := h.cells (g := g) rfl _ _ h3
    rw [Addr.add_lit] at h4 ⊢
    rw [show i * 3 + j = 0 + ((i + j / 3) * 3 + j % 3) by omega]
    exact h4
  · cases h1
theorem append_tabs {w : World} {base : Nat} {v : Value} {n : Nat} {css : List (List Value)} (hown : w.ownsRow base 31 3 v n css.flatten) (a : Addr) (m c : Nat) (dss : List (List Value)) (hlen : dss.length = m) (h3 : ∀ ds ∈ dss, ds.length = 3 ∧ ∀ u ∈ ds, u.oneCell' = true)
    (hcells : ∀ (j : Nat) (u : Value), dss.flatten[j]? = some u → w.cell? (a.add j) = some u) (hn : n + m ≤ 1000) (hb : base ≤ w.heap.size) (ty : TypeId) :
    ∃ a2 n2 c2 w', (Builtin.append_ #[56, 56] ty #[v, .slice (some a) m c]).run Tryz.prog w = .ok (.slice a2 n2 c2) w' ∧ w'.ownsRow base 31 3 (.slice a2 n2 c2) (n + m) (css ++ dss).flatten ∧ Spares (fun k => v.ownBlock = some k) w w' := by
  obtain ⟨i0, hi, hy0, hy1, hy2⟩ := info_parts Tryz.infoTb
  have hfl : dss.flatten.length = m * 3 := by
    rw [← hlen]
    clear hcells hlen
    induction dss with
    | nil => rfl
    | cons d dss ih =>
      rw [List.flatten_cons, List.length_append, ih (fun x hx => h3 x (by simp [hx])), (h3 d (by simp)).1, List.length_cons]
      omega
  obtain ⟨v', w', hr, ho, hg2, _⟩ := run_append_own (P := Tryz.prog) w base 56 ty 31 i0 _ 3 48 Tryz.underlying56 hi hy0 hy1 hy2 rfl (by decide) v n _ hown a m c dss.flatten hfl hcells (fun u hu => by
    obtain ⟨ds, h1, h2⟩ := List.mem_flatten.1 hu
    exact (h3 ds h1).2 u h2) (by unfold maxLen; omega) (by omega) hb
  rw [← List.flatten_append] at ho
  obtain ⟨a2, n2, c2, rfl⟩ : ∃ a2 n2 c2, v' = .slice a2 n2 c2 := by
    rcases ho.2 with ⟨rfl, _⟩ | ⟨_, _, _, rfl, _⟩ <;> exact ⟨_, _, _, rfl⟩
  exact ⟨a2, n2, c2, w', hr, ho, Spares.of_grown (S := fun k => v.ownBlock = some k) hg2 (fun k e => e)⟩
theorem append_noTabs {w : World} {base : Nat} {v : Value} {n : Nat} {xs : List Value} (hown : w.ownsRow base 31 3 v n xs) (ty : TypeId) : (Builtin.append_ #[56, 56] ty #[v, .slice none 0 0]).run Tryz.prog w = .ok v w := by
  obtain ⟨i0, hi, hy0, hy1, hy2⟩ := info_parts Tryz.infoTb
  exact run_append_owned_none (P := Tryz.prog) w base 56 ty 31 i0 3 Tryz.underlying56 hi v n xs hown
end Go.Proofs.YtaaggohjmhifbaaGreatDoor
