/- Contracts of the document's own Same, Meet, None, is, literal, mirror (stage 15), In (stage 14). -/
import Derived.Test.YthjgbcbgkafgjaaDoorPlPure
namespace Go.Proofs.YthjgbcbgkafgjaaDoor
open Go.RowKit Go.Shelf
set_option linter.unusedVariables false
set_option linter.unusedSimpArgs false
set_option maxRecDepth 20000

theorem Tryd.infoSpan : (Tryd.prog.info? 31).map (·.size) = some 3 := by kernel_rfl

theorem span_box (w : World) (a b c : Value) : ∃ W, w.alloc (.cells #[a, b, c] 31) = W ∧ Below w.heap.size w W ∧ W.heap.size = w.heap.size + 1 ∧ W.heap[w.heap.size]? = some (.cells #[a, b, c] 31 (0, 0)) :=
  ⟨_, rfl, new_alloc _ _, World.size_alloc _ _, heap_alloc_new _ _⟩

set_option maxHeartbeats 4000000 in
theorem ysame_any (f1 t1 f2 t2 : Value) (e1 e2 : Bool) (a1 b1 a2 b2 : List UInt8) (w : World) (h1 : Says w f1 a1) (h2 : Says w t1 b1) (h3 : Says w f2 a2) (h4 : Says w t2 b2) :
    Calls Tryd.prog 10 #[.agg #[f1, t1, .bool e1], .agg #[f2, t2, .bool e2]] w fun e w' => e = .returned (.bool (decide (a1 = a2) && (decide (b1 = b2) && decide (e1 = e2)))) ∧ Below w.heap.size w w' := by
  have hb : Below w.heap.size w ((w.alloc (.cells #[f1, t1, .bool e1] 31)).alloc (.cells #[f2, t2, .bool e2] 31)) := (new_alloc _ _).trans ((new_alloc _ _).mono (by simp))
  have s1 := str4 (h1.new hb)
  have s2 := str4 (h2.new hb)
  have s3 := str4 (h3.new hb)
  have s4 := str4 (h4.new hb)
  have q1 := str_beqV a1 a2
  have q2 := str_beqV b1 b2
  obtain ⟨_, c1, rfl, _⟩ := id h1
  obtain ⟨_, c2, rfl, _⟩ := id h2
  obtain ⟨_, c3, rfl, _⟩ := id h3
  obtain ⟨_, c4, rfl, _⟩ := id h4
  have HB := hid hb
  generalize decide (a1 = a2) = r1 at *
  generalize decide (b1 = b2) = r2 at *
  clear h1 h2 h3 h4 hb
  generalize str8 a1 = S1 at *
  generalize str8 b1 = S2 at *
  generalize str8 a2 = S3 at *
  generalize str8 b2 = S4 at *
  cases r1 <;> cases r2 <;> cases e1 <;> cases e2 <;>
  · go_enter Tryd.func10, Tryd.ntmps10
    go_wp2
    go_ret
    exact ⟨rfl, HB.out⟩

def inSp (a b : List UInt8) (e : Bool) (key : List UInt8) : Bool := (⟨a, b, e⟩ : Spn).has key

set_option maxHeartbeats 4000000 in
theorem xin_any (fv tv kv : Value) (en : Bool) (a b key : List UInt8) (w : World) (hf : Says w fv a) (ht : Says w tv b) (hk : Says w kv key) :
    Calls Tryd.prog 17 #[.agg #[fv, tv, .bool en], kv] w fun e w' => e = .returned (.bool (inSp a b en key)) ∧ Below w.heap.size w w' := by
  have hb : Below w.heap.size w (w.alloc (.cells #[fv, tv, .bool en] 31)) := Below.alloc (Below.refl _ _) (Nat.le_refl _) _
  have e1 := str4 (hf.new hb)
  have e2 := str4 (ht.new hb)
  have e3 := str4 (hk.new hb)
  obtain ⟨a1, c1, rfl, _⟩ := id hf
  obtain ⟨a2, c2, rfl, _⟩ := id ht
  obtain ⟨a3, c3, rfl, _⟩ := id hk
  have hin : inSp a b en key = (!Op.bytesLess (str8 key).toList (str8 a).toList && (!en || Op.bytesLess (str8 key).toList (str8 b).toList)) := by rw [str8_toList, str8_toList, str8_toList]; rfl
  rw [hin]
  have HB := hid hb
  clear hf ht hk hb hin
  generalize str8 key = S3 at *
  generalize str8 a = S1 at *
  generalize str8 b = S2 at *
  obtain ⟨r1, h1⟩ : ∃ r, Op.bytesLess S3.toList S1.toList = r := ⟨_, rfl⟩
  obtain ⟨r2, h2⟩ : ∃ r, Op.bytesLess S3.toList S2.toList = r := ⟨_, rfl⟩
  rw [h1, h2]
  cases r1 <;> cases en <;> cases r2 <;>
  · go_enter Tryd.func17, Tryd.ntmps17
    go_wp2
    go_ret
    exact ⟨rfl, HB.out⟩

theorem ymirror_any (op : Int) (w : World) : Calls Tryd.prog 30 #[.int .i64 op] w fun e w' => e = .returned (.int .i64 (mirP op)) ∧ w' = w := by
  by_cases h5 : op = 5
  · subst h5
    go_enter Tryd.func30, Tryd.ntmps30
    go_wp2
    go_ret
    exact ⟨rfl, rfl⟩
  · by_cases h6 : op = 6
    · subst h6
      go_enter Tryd.func30, Tryd.ntmps30
      go_wp2
      go_ret
      exact ⟨rfl, rfl⟩
    · by_cases h7 : op = 7
      · subst h7
        go_enter Tryd.func30, Tryd.ntmps30
        go_wp2
        go_ret
        exact ⟨rfl, rfl⟩
      · by_cases h8 : op = 8
        · subst h8
          go_enter Tryd.func30, Tryd.ntmps30
          go_wp2
          go_ret
          exact ⟨rfl, rfl⟩
        · have hm : mirP op = op := by unfold mirP; rw [if_neg h5, if_neg h6, if_neg h7, if_neg h8]
          rw [hm]
          clear hm
          go_enter Tryd.func30, Tryd.ntmps30
          go_wp2
          go_ret
          exact ⟨rfl, rfl⟩

set_option maxHeartbeats 1000000 in
theorem ynone_any (w : World) : Calls Tryd.prog 39 #[] w fun e w' => e = .returned (.agg #[.slice none 0 0, .slice none 0 0, .bool true]) ∧ Below w.heap.size w w' := by
  have HC := hid (heap_alloc_new w (.cells #[.slice none 0 0, .slice none 0 0, .bool false] 31))
  have HB := hid (new_alloc w (.cells #[.slice none 0 0, .slice none 0 0, .bool false] 31))
  go_enter Tryd.func39, Tryd.ntmps39
  go_wp2_with (refine wpList_store_row rfl 31 (.tmp 0) (.tmp 1) rfl w.heap.size #[.slice none 0 0, .slice none 0 0, .bool true] rfl rfl 31 _ HC.out Tryd.infoSpan rfl rfl ?_)
  exact bodyPost_ret (results_cell_row (p := 0) (ty := 31) rfl _ _ w.heap.size 31 _ (0, 0) _ rfl (heap_alloc_new _ _) Tryd.underlying31 rfl Tryd.infoSpan) rfl ⟨rfl, new_alloc _ _⟩

theorem setCell_far (g h : Nat) (hne : g ≠ h) (W : World) (i j : Nat) (v : Value) : (W.setCell ⟨g, i, none⟩ v).cell? ⟨h, j, none⟩ = W.cell? ⟨h, j, none⟩ :=
  World.cell?_of_block (Below.heap_setCell W ⟨g, i, none⟩ v h (fun e => hne e.symm))

theorem setCell_farF (g h : Nat) (hne : g ≠ h) (W : World) (i j : Nat) (v : Value) : (W.setCell ⟨g, i, none⟩ v).frozen? ⟨h, j, none⟩ = W.frozen? ⟨h, j, none⟩ :=
  World.frozen?_of_block (Below.heap_setCell W ⟨g, i, none⟩ v h (fun e => hne e.symm))

theorem span_set0 {W : World} {g : Nat} {a b c : Value} (h : W.heap[g]? = some (.cells #[a, b, c] 31 (0, 0))) (v : Value) : (W.setCell ⟨g, 0, none⟩ v).heap[g]? = some (.cells #[v, b, c] 31 (0, 0)) := by
  have := heap_setCell_same W g 0 _ _ v h
  simpa using this

theorem span_set1 {W : World} {g : Nat} {a b c : Value} (h : W.heap[g]? = some (.cells #[a, b, c] 31 (0, 0))) (v : Value) : (W.setCell ⟨g, 1, none⟩ v).heap[g]? = some (.cells #[a, v, c] 31 (0, 0)) := by
  have := heap_setCell_same W g 1 _ _ v h
  simpa using this

end Go.Proofs.YthjgbcbgkafgjaaDoor
