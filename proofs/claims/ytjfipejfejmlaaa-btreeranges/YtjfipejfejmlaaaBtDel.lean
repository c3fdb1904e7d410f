/- slices.Delete of one entry; plain facts of a leaf among others. -/
import Derived.Test.YtjfipejfejmlaaaBtTMendF
import Derived.Deep.RegionLaw
namespace Go.Proofs.Ytjfipejfejmlaaa
open Go.RowKit Go.Shelf
set_option linter.unusedVariables false
set_option linter.unusedSimpArgs false
set_option maxRecDepth 20000

/-- Some values written over others. -/
def writeAt (cur : Array Value) : Nat → List Value → Array Value
  | _, [] => cur
  | o, v :: r => writeAt (cur.setIfInBounds o v) (o + 1) r

theorem writeAt_size : ∀ (vs : List Value) (cur : Array Value) (o : Nat), (writeAt cur o vs).size = cur.size
  | [], _, _ => rfl
  | v :: r, cur, o => by rw [writeAt, writeAt_size r]; simp

theorem writeAt_get : ∀ (vs : List Value) (cur : Array Value) (o j : Nat), o + vs.length ≤ cur.size → (writeAt cur o vs)[j]? = if o ≤ j ∧ j < o + vs.length then vs[j - o]? else cur[j]?
  | [], cur, o, j, _ => by rw [writeAt, if_neg (by simp only [List.length_nil]; omega)]
  | v :: r, cur, o, j, h => by
    simp only [List.length_cons] at h
    rw [writeAt, writeAt_get r _ _ _ (by simp only [Array.size_setIfInBounds]; omega)]
    by_cases h1 : o + 1 ≤ j ∧ j < o + 1 + r.length
    · rw [if_pos h1, if_pos ⟨by omega, by simp only [List.length_cons]; omega⟩, show j - o = (j - (o + 1)) + 1 by omega, List.getElem?_cons_succ]
    · rw [if_neg h1]
      by_cases h2 : j = o
      · subst h2
        rw [if_pos ⟨Nat.le_refl _, by simp only [List.length_cons]; omega⟩, Nat.sub_self, Array.getElem?_setIfInBounds_self_of_lt (by omega)]
        rfl
      · rw [if_neg (by simp only [List.length_cons]; omega), Array.getElem?_setIfInBounds_ne (Ne.symm h2)]

theorem heap_setCells (g : Nat) (t : TypeId) : ∀ (vs : List Value) (w : World) (o : Nat) (cur : Array Value), w.heap[g]? = some (.cells cur t (0, 0)) → (w.setCells g o vs).heap[g]? = some (.cells (writeAt cur o vs) t (0, 0))
  | [], w, o, cur, h => h
  | v :: r, w, o, cur, h => heap_setCells g t r _ _ _ (heap_setCell_same _ _ _ _ _ _ h)

theorem spares_setCells (g : Nat) : ∀ (vs : List Value) (w : World) (o : Nat), Spares (fun i => i = g) w (w.setCells g o vs)
  | [], w, o => Spares.refl _ _
  | v :: r, w, o => (spares_set w ⟨g, o, none⟩ v).andThen (spares_setCells g r _ _) (fun i hi => .inl hi)

theorem zeros_two (n : Nat) : (Builtin.zeroCells (Value.agg #[.slice none 0 0, .slice none 0 0]).cells 1).toList = [.slice none 0 0, .slice none 0 0] := by
  simp [Builtin.zeroCells, Value.cells]
  rfl

theorem run_clear_entry (w : World) (ty : TypeId) (g o c : Nat) (cur : Array Value) (hg : w.heap[g]? = some (.cells cur 46 (0, 0))) (ho : o + 2 ≤ cur.size) :
    (Builtin.clear_ #[27] ty #[.slice (some ⟨g, o, none⟩) 1 c]).run Try.prog w = .ok (.tuple #[]) (w.setCells g o [.slice none 0 0, .slice none 0 0]) := by
  have hz : ∀ w, (zeroValue 46).run Try.prog w = .ok (.agg #[.slice none 0 0, .slice none 0 0]) w := Try.zeroValue46
  have hc : ∀ j, j < 2 → (w.cell? ⟨g, o + 0 + j, none⟩).isSome = true := fun j hj => by
    rw [cell_of_row _ _ _ _ _ _ hg, Nat.add_zero, Array.getElem?_eq_getElem (by omega)]; rfl
  have hf : ∀ j, j < 2 → w.frozen? ⟨g, o + 0 + j, none⟩ = false := fun j _ => by simp [World.frozen?, hg]
  have hst := run_storeCells_cells (P := Try.prog) g o [.slice none 0 0, .slice none 0 0] 0 w (by simpa using hc) (by simpa using hf) (by intro v hv; simp at hv; subst hv; rfl)
  simp only [Nat.add_zero] at hst
  have h2 := zeros_two 1
  simp only [Builtin.clear_]
  simp [run_underlying Try.underlying27, hz, h2, hst, Result.andThen]

set_option maxHeartbeats 4000000 in
theorem sdel_any (g n cap k j : Nat) (cur : Array Value) (w : World) (hg : w.heap[g]? = some (.cells cur 46 (0, 0))) (hcs : cur.size = cap * 2) (hn : n ≤ cap) (hcm : cap ≤ maxLen) (hk : k < n) (hj : j = k + 1) (hone : ∀ u ∈ cur.toList.take (n * 2), u.oneCell' = true) :
    Calls Try.prog 40 #[.slice (some ⟨g, 0, none⟩) n cap, .int .i64 k, .int .i64 j] w fun e w' => e = .returned (.slice (some ⟨g, 0, none⟩) (n - 1) cap) ∧ ∃ cur', w'.heap[g]? = some (.cells cur' 46 (0, 0)) ∧ cur'.size = cap * 2 ∧ cur'.toList.take ((n - 1) * 2) = (cur.toList.take (n * 2)).take (k * 2) ++ (cur.toList.take (n * 2)).drop (j * 2) ∧ Spares (fun i => i = g) w w' := by
  obtain ⟨i0, hi, hz0, hzz1, hzz2⟩ := info_parts Try.infoEntryZ
  unfold maxLen at hcm
  obtain ⟨news, hnews⟩ : ∃ news, news = (cur.toList.take (n * 2)).drop (j * 2) := ⟨_, rfl⟩
  have hnl : news.length = (n - j) * 2 := by rw [hnews, List.length_drop, List.length_take, Array.length_toList, hcs, Nat.sub_mul]; omega
  have hget : ∀ t u, news[t]? = some u → w.drew.cell? ⟨g, j * 2 + t, none⟩ = some u := fun t u hu => by
    rw [hnews, List.getElem?_drop, List.getElem?_take] at hu
    split at hu
    · rw [Array.getElem?_toList] at hu
      show w.cell? _ = _
      rw [cell_of_row _ _ _ _ _ _ hg]
      exact hu
    · cases hu
  obtain ⟨A, hA, hsrc⟩ : ∃ A : Addr, (if cap = j then some (⟨g, 0, none⟩ : Addr) else some ⟨g, j * 2, none⟩) = some A ∧ Hid (∀ t u, news[t]? = some u → w.drew.cell? (A.add t) = some u) := by
    by_cases h : cap = j
    · refine ⟨⟨g, 0, none⟩, by simp [h], hid fun t u hu => ?_⟩
      have h0 : news.length = 0 := by rw [hnl]; omega
      rw [List.length_eq_zero_iff.1 h0] at hu
      simp at hu
    · exact ⟨⟨g, j * 2, none⟩, by simp [h], hid fun t u hu => by rw [addr_add]; exact hget t u hu⟩
  have s1 := hid hnl
  have s2 : Hid (∀ u ∈ news, u.oneCell' = true) := hid (fun u hu => by rw [hnews] at hu; exact hone u (List.mem_of_mem_drop hu))
  have s3 : Hid (∀ t, t < news.length → (w.drew.cell? ⟨g, 0 + k * 2 + t, none⟩).isSome = true ∧ w.drew.frozen? ⟨g, 0 + k * 2 + t, none⟩ = false) := hid (fun t ht => by
    refine ⟨?_, ?_⟩
    · show (w.cell? _).isSome = true
      rw [cell_of_row _ _ _ _ _ _ hg, Array.getElem?_eq_getElem (by omega)]; rfl
    · show w.frozen? _ = false
      simp [World.frozen?, hg])
  obtain ⟨W1, hW1⟩ : ∃ W1, W1 = w.drew.setCells g (0 + k * 2) news := ⟨_, rfl⟩
  have hg1 : W1.heap[g]? = some (.cells (writeAt cur (0 + k * 2) news) 46 (0, 0)) := by rw [hW1]; exact heap_setCells g _ news w.drew _ _ hg
  have hcl : ∀ ty, (Builtin.clear_ #[27] ty #[.slice (some ⟨g, (k + (n - j)) * 2, none⟩) (n - (k + (n - j))) (cap - (k + (n - j)))]).run Try.prog W1 = .ok (.tuple #[]) (W1.setCells g ((k + (n - j)) * 2) [.slice none 0 0, .slice none 0 0]) := fun ty => by
    rw [show n - (k + (n - j)) = 1 by omega]
    exact run_clear_entry W1 ty g _ _ _ hg1 (by rw [writeAt_size]; omega)
  have HF : Hid (∃ cur', (W1.setCells g ((k + (n - j)) * 2) [.slice none 0 0, .slice none 0 0]).heap[g]? = some (.cells cur' 46 (0, 0)) ∧ cur'.size = cap * 2 ∧ cur'.toList.take ((n - 1) * 2) = (cur.toList.take (n * 2)).take (k * 2) ++ (cur.toList.take (n * 2)).drop (j * 2) ∧ Spares (fun i => i = g) w (W1.setCells g ((k + (n - j)) * 2) [.slice none 0 0, .slice none 0 0])) := hid (by
    refine ⟨_, heap_setCells g _ _ W1 _ _ hg1, by rw [writeAt_size, writeAt_size, hcs], ?_, ?_⟩
    · rw [← hnews]
      apply List.ext_getElem?
      intro t
      rw [List.getElem?_take]
      by_cases ht : t < (n - 1) * 2
      · rw [if_pos ht, Array.getElem?_toList, writeAt_get _ _ _ _ (by rw [writeAt_size, hcs]; simp only [List.length_cons, List.length_nil]; omega), if_neg (by omega), writeAt_get _ _ _ _ (by rw [hnl, hcs]; omega)]
        by_cases ht2 : t < k * 2
        · rw [if_neg (by omega), List.getElem?_append_left (by rw [List.length_take, List.length_take, Array.length_toList, hcs]; omega), List.getElem?_take, if_pos ht2, List.getElem?_take, if_pos (by omega), Array.getElem?_toList]
        · rw [if_pos ⟨by omega, by rw [hnl]; omega⟩, List.getElem?_append_right (by rw [List.length_take, List.length_take, Array.length_toList, hcs]; omega)]
          congr 1
          rw [List.length_take, List.length_take, Array.length_toList, hcs]
          omega
      · rw [if_neg ht, List.getElem?_eq_none]
        rw [List.length_append, hnl, List.length_take, List.length_take, Array.length_toList, hcs]
        omega
    · rw [hW1]
      exact ((Spares.of_new (below_drewN _ w 1)).andThen (spares_setCells g news w.drew _) (fun i hi => .inl hi)).andThen (spares_setCells g _ _ _) (fun i hi => .inl hi))
  have hW := hid hW1
  have hkn : (k : Int) ≤ (j : Int) := by omega
  have hkn2 : (j : Int) ≤ (n : Int) := by omega
  have hnc : (n : Int) ≤ (cap : Int) := by omega
  have hk0 : (0 : Int) ≤ (k : Int) := by omega
  have hkj : ¬ (k : Int) = (j : Int) := by omega
  have hkj2 : ((k : Int) == (j : Int)) = false := by simpa using hkj
  have hic : k ≤ cap := by omega
  have hjc : j ≤ cap := by omega
  have HJ := hid hj
  have hlen : Hid (k + (n - j) = n - 1) := hid (by omega)
  clear hW1 hg1 hget hnews hnl hg hcs hone hj
  go_enter Try.func40, Try.ntmps40
  go_wp2_with fail
  go_region_law (refine step_append_room rfl (.tmp 22) (.tmp 25) 27 rfl 46 i0 2 Try.underlying27 hi hzz1 g 0 k cap (by simp [Act.eval, Act.put]) A (n - j) (cap - j) news (by simp [Act.eval, Act.put]) s1.out hsrc.out s2.out (by omega) s3.out ?_; rw [← hW.out])
  go_wp2
  go_ret
  exact ⟨by rw [hlen.out]; rfl, HF.out⟩
end Go.Proofs.Ytjfipejfejmlaaa
