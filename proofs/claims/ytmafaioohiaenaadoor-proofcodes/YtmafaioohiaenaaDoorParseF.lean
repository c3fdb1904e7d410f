/- Contract of proof.Parse. -/
import Derived.Test.YtmafaioohiaenaaDoorOfRowL
namespace Go.Proofs.YtmafaioohiaenaaDoor
open Go.RowKit Go.Shelf
set_option linter.unusedVariables false
set_option linter.unusedSimpArgs false
set_option maxRecDepth 20000

theorem trows_lenZ (bs : List UInt8) : ∀ n i, (trows bs n i).2.1.length ≤ n
  | 0, i => by simp [trows]
  | n + 1, i => by
    simp only [trows]
    split
    · simp
    · split
      · simp
      · have := trows_lenZ bs n (i + (tblob (bs.drop i)).2.2)
        simp only [List.length_cons]
        omega

theorem trow_lenZ (bs : List UInt8) : (trow bs).2.1.length ≤ 4096 := by
  unfold trow
  split
  · simp
  · have h := trows_lenZ bs (tcount bs 4096).1 4
    have h2 := (tcount_ok bs 4096 (by omega)).2.2
    omega

/-- The zero proof. -/
def zeroP : Prf := ⟨false, [], [], []⟩

theorem powns_nil (B : Nat) (w : World) (b : Bool) : POwn B w ⟨b, [], [], []⟩ (.slice none 0 0) (.slice none 0 0) (.slice none 0 0) :=
  ⟨World.ownsRow_nil _ _ _ _, World.ownsRow_nil _ _ _ _, World.ownsRow_nil _ _ _ _, fun s hs => (by cases hs), fun g hg => (by cases hg)⟩

theorem ofRow_any (B : Nat) (rv : Value) (rows : List (List UInt8)) (w : World) (hB : B ≤ w.heap.size) (hR : RowsAt w B rv rows) (h4096 : rows.length ≤ 4096) :
    Calls Tryd.prog 58 #[rv] w fun e w' => ∃ kv vv sv, e = .returned (.tuple #[.agg #[.bool ((ofRowZ rows).getD zeroP).no, kv, vv, sv], .bool (ofRowZ rows).isSome]) ∧ POwn B w' ((ofRowZ rows).getD zeroP) kv vv sv ∧ Below w.heap.size w w' := by
  have hno : ∀ w', ofRowZ rows = none → ∃ kv vv sv, Ending.returned (.tuple #[.agg #[.bool false, .slice none 0 0, .slice none 0 0, .slice none 0 0], .bool false]) = .returned (.tuple #[.agg #[.bool ((ofRowZ rows).getD zeroP).no, kv, vv, sv], .bool (ofRowZ rows).isSome]) ∧ POwn B w' ((ofRowZ rows).getD zeroP) kv vv sv := fun w' h => by
    rw [h]
    exact ⟨_, _, _, rfl, powns_nil B w' false⟩
  by_cases h1 : rows.length = 1
  · obtain ⟨r, hr⟩ : ∃ r, rows[0]? = some r := ⟨_, List.getElem?_eq_getElem (by omega)⟩
    have hg : rows[0]?.getD [] = r := by rw [hr]; rfl
    by_cases he : r = be (u64of 1) 8
    · refine (ofRow_none B rv rows w hB hR h1 r hr he).mono fun e w' ⟨h, hb⟩ => ?_
      have ho : ofRowZ rows = some ⟨true, [], [], []⟩ := by unfold ofRowZ; rw [if_pos ⟨h1, hg.trans he⟩]
      rw [ho]
      exact ⟨_, _, _, h, powns_nil B w' true, hb⟩
    · refine (ofRow_odd B rv rows w hB hR h1 r hr he).mono fun e w' ⟨h, hb⟩ => ?_
      obtain ⟨kv, vv, sv, e1, e2⟩ := hno w' (by unfold ofRowZ; rw [if_neg (fun h => he (hg.symm.trans h.2)), if_pos (.inl (by omega))])
      exact ⟨kv, vv, sv, h.trans e1, e2, hb⟩
  · by_cases h3 : rows.length < 3
    · refine (ofRow_few B rv rows w hB hR h1 h3).mono fun e w' ⟨h, hb⟩ => ?_
      obtain ⟨kv, vv, sv, e1, e2⟩ := hno w' (by unfold ofRowZ; rw [if_neg (fun h => h1 h.1), if_pos (.inl h3)])
      exact ⟨kv, vv, sv, h.trans e1, e2, hb⟩
    · obtain ⟨r, hr⟩ : ∃ r, rows[0]? = some r := ⟨_, List.getElem?_eq_getElem (by omega)⟩
      have hg : rows[0]?.getD [] = r := by rw [hr]; rfl
      by_cases he : r = be (u64of 0) 8
      · refine (ofRow_many B rv rows w hB hR (by omega) h4096 r hr he).mono fun e w' h => ?_
        have ho : ofRowZ rows = (stepsOfZ (rows.drop 3)).map fun st => ⟨false, rows[1]?.getD [], rows[2]?.getD [], st⟩ := by
          unfold ofRowZ
          rw [if_neg (fun h => h1 h.1), if_neg (by rw [hg]; intro h; rcases h with h | h; exact h3 h; exact h he)]
        rcases h with ⟨hs, h, hb⟩ | ⟨st, kv, vv, sv, hs, h, ho2, hb⟩
        · obtain ⟨kv, vv, sv, e1, e2⟩ := hno w' (by rw [ho, hs]; rfl)
          exact ⟨kv, vv, sv, h.trans e1, e2, hb⟩
        · rw [ho, hs]
          exact ⟨kv, vv, sv, h, ho2, hb⟩
      · refine (ofRow_other B rv rows w hB hR (by omega) r hr he).mono fun e w' ⟨h, hb⟩ => ?_
        obtain ⟨kv, vv, sv, e1, e2⟩ := hno w' (by unfold ofRowZ; rw [if_neg (fun h => h1 h.1), if_pos (.inr (by rw [hg]; exact he))])
        exact ⟨kv, vv, sv, h.trans e1, e2, hb⟩

theorem POwn.one {B : Nat} {w : World} {p : Prf} {kv vv sv : Value} (h : POwn B w p kv vv sv) (b : Bool) : (#[Value.bool b, kv, vv, sv] : Array Value).all (·.oneCell') = true := by
  obtain ⟨a1, c1, rfl⟩ := row_form h.k
  obtain ⟨a2, c2, rfl⟩ := row_form h.v
  obtain ⟨a3, c3, rfl, _, _⟩ := h.at.hs.form
  exact one_fourZ _ _ _ _ _ _ _ _ _ _

/-- The proof that these bytes are, and Parse's other answer. -/
def parseZ (bs : List UInt8) : Prf × Int :=
  if (trow bs).1 ≠ 0 ∨ (trow bs).2.2 ≠ bs.length then (zeroP, 4)
  else if (ofRowZ (trow bs).2.1).isSome = false ∨ ((ofRowZ (trow bs).2.1).getD zeroP).may = false then (zeroP, 4)
  else ((ofRowZ (trow bs).2.1).getD zeroP, 0)

set_option maxHeartbeats 4000000 in
theorem parse_bad (B0 : Nat) (v : Value) (bs : List UInt8) (w : World) (hsh : Shows B0 w v bs) (hB : B0 ≤ w.heap.size) (hbad : (trow bs).1 ≠ 0 ∨ (trow bs).2.2 ≠ bs.length) :
    Calls Tryd.prog 22 #[v] w fun e w' => e = .returned (.tuple #[.agg #[.bool false, .slice none 0 0, .slice none 0 0, .slice none 0 0], .int .i64 4]) ∧ Below w.heap.size w w' := by
  have hnew := World.alloc_heap_new w (.cells #[.bool false, .slice none 0 0, .slice none 0 0, .slice none 0 0] 29)
  have hbn : Below w.heap.size w (w.alloc (.cells #[.bool false, .slice none 0 0, .slice none 0 0, .slice none 0 0] 29)) := new_allocZ _ _
  have HT := takeRow_any B0 v bs _ (hsh.below (hbn.mono hB)) (Nat.le_trans hB hbn.size)
  obtain ⟨ba, bc, rfl, hbl, _⟩ := id hsh
  obtain ⟨c, rows, n⟩ : ∃ t, trow bs = t := ⟨_, rfl⟩
  generalize trow bs = t at *
  obtain ⟨c, rows, n⟩ := t
  simp only at HT hbad
  have hc : ¬ (c : Int) = 0 ∨ (c : Int) = 0 ∧ ¬ (n : Int) = (bs.length : Int) := by omega
  clear hbad hsh
  generalize bs.length = bl at *
  rcases hc with hc | ⟨hc, hn⟩
  all_goals
    go_enter Tryd.func22, Tryd.ntmps22
    go_wp2_with (first
      | (go_at_call 57; refine HT.mono ?_; clear HT; rintro e w1 ⟨v1, rfl, _, hb1⟩
         have H1 := hid ((hb1.block _ (block_lt hnew)).trans hnew)
         have HB1 := hid (hbn.trans (hb1.mono hbn.size))
         clear hb1 hnew hbn)
      | (refine wpList_buildTo rfl 29 #[] rfl (some 23) rfl #[.bool false, .slice none 0 0, .slice none 0 0, .slice none 0 0] (by exact built_proofZ) ?_)
      | (refine wpList_store_row rfl 29 (.tmp 2) (.tmp 23) rfl w.heap.size #[.bool false, .slice none 0 0, .slice none 0 0, .slice none 0 0] rfl rfl 29 #[.bool false, .slice none 0 0, .slice none 0 0, .slice none 0 0] H1.out Tryd.infoProof rfl (one_fourZ _ _ _ _ _ _ _ _ _ _) ?_)
      | (refine bodyPost_ret (v := .tuple #[.agg #[.bool false, .slice none 0 0, .slice none 0 0, .slice none 0 0], .int .i64 4]) (results_agg_tmp (p := 2) (u := 3) (ty := 29) rfl _ _ w.heap.size #[.bool false, .slice none 0 0, .slice none 0 0, .slice none 0 0] rfl (load_row_proof (setRow_heap _ _ _ _ _ _ H1.out) rfl)) rfl ⟨rfl, below_setRow HB1.out (Nat.le_refl _) _⟩))

set_option maxHeartbeats 4000000 in
theorem parse_row (B0 : Nat) (v : Value) (bs : List UInt8) (w : World) (hsh : Shows B0 w v bs) (hB : B0 ≤ w.heap.size) (rows : List (List UInt8)) (ht : trow bs = (0, rows, bs.length)) (h4096 : rows.length ≤ 4096) (p : Prf) (b : Bool) (hp : (ofRowZ rows).getD zeroP = p) (hb : (ofRowZ rows).isSome = b) :
    Calls Tryd.prog 22 #[v] w fun e w' => (e = .returned (.tuple #[.agg #[.bool false, .slice none 0 0, .slice none 0 0, .slice none 0 0], .int .i64 4]) ∧ (b = false ∨ p.may = false) ∧ Below w.heap.size w w') ∨
      (∃ kv vv sv, e = .returned (.tuple #[.agg #[.bool p.no, kv, vv, sv], .int .i64 0]) ∧ b = true ∧ p.may = true ∧ POwn w.heap.size w' p kv vv sv ∧ Below w.heap.size w w') := by
  have hnew := World.alloc_heap_new w (.cells #[.bool false, .slice none 0 0, .slice none 0 0, .slice none 0 0] 29)
  have hbn : Below w.heap.size w (w.alloc (.cells #[.bool false, .slice none 0 0, .slice none 0 0, .slice none 0 0] 29)) := new_allocZ _ _
  have hsn : (w.alloc (.cells #[.bool false, .slice none 0 0, .slice none 0 0, .slice none 0 0] 29)).heap.size = w.heap.size + 1 := World.size_alloc _ _
  have HT := takeRow_any B0 v bs _ (hsh.below (hbn.mono hB)) (Nat.le_trans hB hbn.size)
  obtain ⟨ba, bc, rfl, hbl, _⟩ := id hsh
  rw [ht] at HT
  simp only at HT
  rw [hsn] at HT
  clear ht hsh
  have HP := hid hp
  have HBB := hid hb
  have H4 := hid h4096
  clear hp hb h4096
  generalize bs.length = bl at *
  cases b with
  | false =>
    go_enter Tryd.func22, Tryd.ntmps22
    go_wp2_with (first
      | (go_at_call 57; refine HT.mono ?_; clear HT; rintro e w1 ⟨v1, rfl, hR1, hb1⟩
         have H1 := hid ((hb1.block _ (by omega)).trans hnew)
         have HB1 := hid (hbn.trans (hb1.mono (by omega)))
         have HO := ofRow_any (w.heap.size + 1) v1 rows w1 (by have := hb1.size; omega) hR1 H4.out
         rw [HP.out, HBB.out] at HO
         clear hb1 hnew hbn hsn hR1)
      | (go_at_call 58; refine HO.mono ?_; clear HO; rintro e w2 ⟨kv, vv, sv, rfl, hpo, hb2⟩
         have H2 := hid ((hb2.block _ (block_lt H1.out)).trans H1.out)
         have HB2 := hid (HB1.out.trans (hb2.mono HB1.out.size))
         have HPO := hid hpo
         clear hb2 hpo H1 HB1)
      | (refine wpList_store_row rfl 29 (.tmp 7) (.tmp 27) rfl w2.heap.size #[.bool p.no, kv, vv, sv] rfl rfl 29 #[.bool false, .slice none 0 0, .slice none 0 0, .slice none 0 0] (World.alloc_heap_new w2 _) Tryd.infoProof rfl (HPO.out.one _) ?_
         generalize hw3 : World.setRow _ w2.heap.size #[.bool p.no, kv, vv, sv] = w3
         have hb3 : Below w2.heap.size w2 w3 := by rw [← hw3]; exact below_setRow (new_allocZ w2 (.cells #[.bool false, .slice none 0 0, .slice none 0 0, .slice none 0 0] 29)) (Nat.le_refl _) _
         have HX3 : Hid (w3.heap[w2.heap.size]? = some (.cells #[.bool p.no, kv, vv, sv] 29 (0, 0))) := hid (by rw [← hw3]; exact setRow_heap _ _ _ _ _ _ (World.alloc_heap_new w2 _))
         have H3 := hid ((hb3.block _ (block_lt H2.out)).trans H2.out)
         have HB3 := hid (HB2.out.trans (hb3.mono HB2.out.size))
         have HPO3 := hid (HPO.out.new hb3)
         clear hb3 hw3 H2 HB2 HPO)
      | (refine wpList_load_z rfl 29 (.tmp 7) rfl ⟨w2.heap.size, 0, none⟩ rfl #[.bool p.no, kv, vv, sv] (load_row_proof HX3.out rfl) ?_)
      | (refine wpList_buildTo rfl 29 #[] rfl (some 36) rfl #[.bool false, .slice none 0 0, .slice none 0 0, .slice none 0 0] (by exact built_proofZ) ?_)
      | (refine wpList_store_row rfl 29 (.tmp 2) (.tmp 36) rfl w.heap.size #[.bool false, .slice none 0 0, .slice none 0 0, .slice none 0 0] rfl rfl 29 #[.bool false, .slice none 0 0, .slice none 0 0, .slice none 0 0] H3.out Tryd.infoProof rfl (one_fourZ _ _ _ _ _ _ _ _ _ _) ?_)
      | (refine bodyPost_ret (v := .tuple #[.agg #[.bool false, .slice none 0 0, .slice none 0 0, .slice none 0 0], .int .i64 4]) (results_agg_tmp (p := 2) (u := 3) (ty := 29) rfl _ _ w.heap.size #[.bool false, .slice none 0 0, .slice none 0 0, .slice none 0 0] rfl (load_row_proof (setRow_heap _ _ _ _ _ _ H3.out) rfl)) rfl (.inl ⟨rfl, .inl trivial, below_setRow HB3.out (Nat.le_refl _) _⟩)))
  | true =>
    cases hmay : p.may with
    | false =>
      go_enter Tryd.func22, Tryd.ntmps22
      go_wp2_with (first
        | (go_at_call 57; refine HT.mono ?_; clear HT; rintro e w1 ⟨v1, rfl, hR1, hb1⟩
           have H1 := hid ((hb1.block _ (by omega)).trans hnew)
           have HB1 := hid (hbn.trans (hb1.mono (by omega)))
           have HO := ofRow_any (w.heap.size + 1) v1 rows w1 (by have := hb1.size; omega) hR1 H4.out
           rw [HP.out, HBB.out] at HO
           clear hb1 hnew hbn hsn hR1)
        | (go_at_call 58; refine HO.mono ?_; clear HO; rintro e w2 ⟨kv, vv, sv, rfl, hpo, hb2⟩
           have H2 := hid ((hb2.block _ (block_lt H1.out)).trans H1.out)
           have HB2 := hid (HB1.out.trans (hb2.mono HB1.out.size))
           have HPO := hid hpo
           clear hb2 hpo H1 HB1)
        | (refine wpList_store_row rfl 29 (.tmp 7) (.tmp 27) rfl w2.heap.size #[.bool p.no, kv, vv, sv] rfl rfl 29 #[.bool false, .slice none 0 0, .slice none 0 0, .slice none 0 0] (World.alloc_heap_new w2 _) Tryd.infoProof rfl (HPO.out.one _) ?_
           generalize hw3 : World.setRow _ w2.heap.size #[.bool p.no, kv, vv, sv] = w3
           have hb3 : Below w2.heap.size w2 w3 := by rw [← hw3]; exact below_setRow (new_allocZ w2 (.cells #[.bool false, .slice none 0 0, .slice none 0 0, .slice none 0 0] 29)) (Nat.le_refl _) _
           have HX3 : Hid (w3.heap[w2.heap.size]? = some (.cells #[.bool p.no, kv, vv, sv] 29 (0, 0))) := hid (by rw [← hw3]; exact setRow_heap _ _ _ _ _ _ (World.alloc_heap_new w2 _))
           have H3 := hid ((hb3.block _ (block_lt H2.out)).trans H2.out)
           have HB3 := hid (HB2.out.trans (hb3.mono HB2.out.size))
           have HPO3 := hid (HPO.out.new hb3)
           have HM := may_any w3.heap.size p kv vv sv w3 (Nat.le_refl _) HPO3.out.at
           rw [hmay] at HM
           clear hb3 hw3 H2 HB2 HPO)
        | (refine wpList_load_z rfl 29 (.tmp 7) rfl ⟨w2.heap.size, 0, none⟩ rfl #[.bool p.no, kv, vv, sv] (load_row_proof HX3.out rfl) ?_)
        | (go_at_call 44; refine HM.mono ?_; clear HM; rintro e w4 ⟨rfl, hb4⟩
           have HX4 := hid ((hb4.block _ (block_lt HX3.out)).trans HX3.out)
           have H4' := hid ((hb4.block _ (block_lt H3.out)).trans H3.out)
           have HB4 := hid (HB3.out.trans (hb4.mono HB3.out.size))
           have HPO4 := hid (HPO3.out.new hb4)
           clear hb4)
        | (refine wpList_load_z rfl 29 (.tmp 7) rfl ⟨w2.heap.size, 0, none⟩ rfl #[.bool p.no, kv, vv, sv] (load_row_proof HX4.out rfl) ?_)
        | (refine wpList_buildTo rfl 29 #[] rfl (some 36) rfl #[.bool false, .slice none 0 0, .slice none 0 0, .slice none 0 0] (by exact built_proofZ) ?_)
        | (refine wpList_store_row rfl 29 (.tmp 2) (.tmp 36) rfl w.heap.size #[.bool false, .slice none 0 0, .slice none 0 0, .slice none 0 0] rfl rfl 29 #[.bool false, .slice none 0 0, .slice none 0 0, .slice none 0 0] H4'.out Tryd.infoProof rfl (one_fourZ _ _ _ _ _ _ _ _ _ _) ?_)
        | (refine bodyPost_ret (v := .tuple #[.agg #[.bool false, .slice none 0 0, .slice none 0 0, .slice none 0 0], .int .i64 4]) (results_agg_tmp (p := 2) (u := 3) (ty := 29) rfl _ _ w.heap.size #[.bool false, .slice none 0 0, .slice none 0 0, .slice none 0 0] rfl (load_row_proof (setRow_heap _ _ _ _ _ _ H4'.out) rfl)) rfl (.inl ⟨rfl, .inr trivial, below_setRow HB4.out (Nat.le_refl _) _⟩)))
    | true =>
      go_enter Tryd.func22, Tryd.ntmps22
      go_wp2_with (first
        | (go_at_call 57; refine HT.mono ?_; clear HT; rintro e w1 ⟨v1, rfl, hR1, hb1⟩
           have H1 := hid ((hb1.block _ (by omega)).trans hnew)
           have HB1 := hid (hbn.trans (hb1.mono (by omega)))
           have HO := ofRow_any (w.heap.size + 1) v1 rows w1 (by have := hb1.size; omega) hR1 H4.out
           rw [HP.out, HBB.out] at HO
           clear hb1 hnew hbn hsn hR1)
        | (go_at_call 58; refine HO.mono ?_; clear HO; rintro e w2 ⟨kv, vv, sv, rfl, hpo, hb2⟩
           have H2 := hid ((hb2.block _ (block_lt H1.out)).trans H1.out)
           have HB2 := hid (HB1.out.trans (hb2.mono HB1.out.size))
           have HPO := hid hpo
           clear hb2 hpo H1 HB1)
        | (refine wpList_store_row rfl 29 (.tmp 7) (.tmp 27) rfl w2.heap.size #[.bool p.no, kv, vv, sv] rfl rfl 29 #[.bool false, .slice none 0 0, .slice none 0 0, .slice none 0 0] (World.alloc_heap_new w2 _) Tryd.infoProof rfl (HPO.out.one _) ?_
           generalize hw3 : World.setRow _ w2.heap.size #[.bool p.no, kv, vv, sv] = w3
           have hb3 : Below w2.heap.size w2 w3 := by rw [← hw3]; exact below_setRow (new_allocZ w2 (.cells #[.bool false, .slice none 0 0, .slice none 0 0, .slice none 0 0] 29)) (Nat.le_refl _) _
           have HX3 : Hid (w3.heap[w2.heap.size]? = some (.cells #[.bool p.no, kv, vv, sv] 29 (0, 0))) := hid (by rw [← hw3]; exact setRow_heap _ _ _ _ _ _ (World.alloc_heap_new w2 _))
           have H3 := hid ((hb3.block _ (block_lt H2.out)).trans H2.out)
           have HB3 := hid (HB2.out.trans (hb3.mono HB2.out.size))
           have HPO3 := hid (HPO.out.new hb3)
           have HM := may_any w3.heap.size p kv vv sv w3 (Nat.le_refl _) HPO3.out.at
           rw [hmay] at HM
           clear hb3 hw3 H2 HB2 HPO)
        | (refine wpList_load_z rfl 29 (.tmp 7) rfl ⟨w2.heap.size, 0, none⟩ rfl #[.bool p.no, kv, vv, sv] (load_row_proof HX3.out rfl) ?_)
        | (go_at_call 44; refine HM.mono ?_; clear HM; rintro e w4 ⟨rfl, hb4⟩
           have HX4 := hid ((hb4.block _ (block_lt HX3.out)).trans HX3.out)
           have H4' := hid ((hb4.block _ (block_lt H3.out)).trans H3.out)
           have HB4 := hid (HB3.out.trans (hb4.mono HB3.out.size))
           have HPO4 := hid (HPO3.out.new hb4)
           clear hb4)
        | (refine wpList_load_z rfl 29 (.tmp 7) rfl ⟨w2.heap.size, 0, none⟩ rfl #[.bool p.no, kv, vv, sv] (load_row_proof HX4.out rfl) ?_)
        | (refine wpList_store_row rfl 29 (.tmp 2) (.tmp 37) rfl w.heap.size #[.bool p.no, kv, vv, sv] rfl rfl 29 #[.bool false, .slice none 0 0, .slice none 0 0, .slice none 0 0] H4'.out Tryd.infoProof rfl (HPO4.out.one _) ?_)
        | (refine bodyPost_ret (v := .tuple #[.agg #[.bool p.no, kv, vv, sv], .int .i64 0]) (results_agg_tmp (p := 2) (u := 3) (ty := 29) rfl _ _ w.heap.size #[.bool p.no, kv, vv, sv] rfl (load_row_proof (setRow_heap _ _ _ _ _ _ H4'.out) rfl)) rfl (.inr ⟨kv, vv, sv, rfl, trivial, trivial, (HPO4.out.spares (spares_setRowZ _ w.heap.size #[.bool p.no, kv, vv, sv]) (fun i hi => by omega)).lower (by omega), below_setRow HB4.out (Nat.le_refl _) _⟩)))

theorem parse_any (B0 : Nat) (v : Value) (bs : List UInt8) (w : World) (hsh : Shows B0 w v bs) (hB : B0 ≤ w.heap.size) :
    Calls Tryd.prog 22 #[v] w fun e w' => ∃ kv vv sv, e = .returned (.tuple #[.agg #[.bool (parseZ bs).1.no, kv, vv, sv], .int .i64 (parseZ bs).2]) ∧ POwn w.heap.size w' (parseZ bs).1 kv vv sv ∧ Below w.heap.size w w' := by
  by_cases hbad : (trow bs).1 ≠ 0 ∨ (trow bs).2.2 ≠ bs.length
  · refine (parse_bad B0 v bs w hsh hB hbad).mono fun e w' ⟨h, hb⟩ => ?_
    have : parseZ bs = (zeroP, 4) := by unfold parseZ; rw [if_pos hbad]
    rw [this]
    exact ⟨_, _, _, h, powns_nil _ _ _, hb⟩
  · have h1 : (trow bs).1 = 0 := Decidable.byContradiction fun h => hbad (.inl h)
    have h2 : (trow bs).2.2 = bs.length := Decidable.byContradiction fun h => hbad (.inr h)
    refine (parse_row B0 v bs w hsh hB (trow bs).2.1 (by rw [← h1, ← h2]) (trow_lenZ bs) _ _ rfl rfl).mono fun e w' h => ?_
    rcases h with ⟨h, hd, hb⟩ | ⟨kv, vv, sv, h, hs, hm, hp, hb⟩
    · have : parseZ bs = (zeroP, 4) := by unfold parseZ; rw [if_neg hbad, if_pos hd]
      rw [this]
      exact ⟨_, _, _, h, powns_nil _ _ _, hb⟩
    · have : parseZ bs = ((ofRowZ (trow bs).2.1).getD zeroP, 0) := by
        unfold parseZ
        rw [if_neg hbad, if_neg (by rw [hs, hm]; simp)]
      rw [this]
      exact ⟨kv, vv, sv, h, hp, hb⟩
end Go.Proofs.YtmafaioohiaenaaDoor
