/- Contract of trie.Tree.Path. -/
import Derived.Test.YthkeofinamedfaaDoorPathP
namespace Go.Proofs.YthkeofinamedfaaDoor
open Go.RowKit Go.Shelf
set_option linter.unusedVariables false
set_option maxRecDepth 20000
attribute [local go_sem] Oper.semAt_some

set_option linter.unusedSimpArgs false
set_option maxHeartbeats 4000000 in
theorem path_any (tb : Nat) (o : Option Nod) (kv : Value) (key : List UInt8) (w : World) (ht : TreeAt w tb o) (hk : Says w kv key) (hT : Tables w) (hn : (Tri.entsO (triO o)).length < 1000000000) :
    Calls Tryd.prog 26 #[.pointer (some ⟨tb, 0, none⟩), kv] w fun e w' => ∃ ek ev sv, e = .returned (.agg #[.bool (triO o).isNone, ek, ev, sv]) ∧
      Copy w.heap.size w' ek ((((triO o).map (·.near key)).map (·.1)).getD []) ∧ Copy w.heap.size w' ev ((((triO o).map (·.near key)).map (·.2)).getD []) ∧
      w'.ownsRow w.heap.size 62 34 sv (stepsO (triO o) key).length ((stepsO (triO o) key).flatMap stepC) ∧ (∀ g, ek.ownBlock = some g → ev.ownBlock ≠ some g) ∧ Below w.heap.size w w' := by
  have hk0 := hk
  obtain ⟨a, c, rfl, g1, g2, gn, g3⟩ := hk
  clear g3 gn
  refine (callsIn_wide (n := 3)).1 ?_
  refine callsIn_of_wp_marks Tryd.func26 rfl trivial ?_ rfl
  simp only [Tryd.ntmps26, List.size_toArray, List.length_cons, List.length_nil, Nat.reduceAdd, Nat.reduceSub, Array.replicate_succ, Array.replicate_zero, List.push_toArray, List.append_toArray, List.nil_append, List.cons_append]
  gi_wp2_with (refine ⟨trivial, ?_⟩; gi_at_call 50; refine (callsIn_wide.2 (down_any _ _ _ _ _)).mono ?_; rintro e w' ⟨rfl, rfl⟩)
  obtain ⟨w5, hw5, c0, c1, c2, c3, c4, hB0, hsz⟩ := alloc5 w (.cells #[.slice a key.length c] 28) (.cells #[.bool false, .slice none 0 0, .slice none 0 0, .slice none 0 0] 59) (.cells #[.bool true, .slice none 0 0, .slice none 0 0, .slice none 0 0] 59) (.cells #[.pointer (some ⟨tb, 0, none⟩)] 24) (.cells #[.slice a key.length c] 28)
  rw [hw5]
  clear hw5
  have ht5 := ht.new hB0
  have hs5 : Shows w.heap.size w5 (.slice a key.length c) key := hk0.below hB0
  refine wpIn_rangeFunc_ownG rfl (by omega) (gf := 71) (lb := #[.pointer (some ⟨w.heap.size + 1 + 1 + 1, 0, none⟩), .pointer (some ⟨w.heap.size + 1 + 1 + 1 + 1, 0, none⟩)]) rfl trivial (enters_of Tryd.func71 (by kernel_rfl) rfl)
    (down_stops _ (w.heap.size + 1 + 1 + 1) (w.heap.size + 1 + 1 + 1 + 1) w.heap.size tb a key.length c key o w5 (by rw [cell_of_row _ _ _ _ _ _ c3]; rfl) c4 hs5 ht5 ht.lt (by omega)) kpB_t (kpB_b (by omega) (by omega)) (Below.refl _ _) (fun _ => rfl)
    (fun pre W => ∃ ek ev sv, PathI w (.slice a key.length c) o key pre W ek ev sv)
    (fun _ _ _ => False)
    (pathI_own (by omega))
    (fun _ _ _ _ _ hs _ _ => hs)
    ⟨.slice none 0 0, .slice none 0 0, .slice none 0 0, c0, c1, c2, World.ownsRow_nil _ _ _ _, World.ownsRow_nil _ _ _ _, World.ownsRow_nil _ _ _ _, fun g h => (by cases h), fun g h => (by cases h), fun g h => (by cases h), hB0, by omega⟩
    (fun y => { tmps := #[.pointer (some ⟨tb, 0, none⟩), .slice a key.length c, undef, .pointer (some ⟨w.heap.size, 0, none⟩), .pointer (some ⟨w.heap.size + 1, 0, none⟩), .pointer (some ⟨w.heap.size + 1 + 1, 0, none⟩), y.1.at', .agg #[.bool true, .slice none 0 0, .slice none 0 0, .slice none 0 0], .pointer (some ⟨tb, 0, none⟩), .slice a key.length c, .func (.func 71) #[] #[.pointer (some ⟨w.heap.size + 1 + 1 + 1, 0, none⟩), .pointer (some ⟨w.heap.size + 1 + 1 + 1 + 1, 0, none⟩)], y.1.at', undef, undef, undef, undef, undef, undef, undef, undef, undef, undef, undef, undef, undef, undef, undef, undef, undef, undef, undef, undef, undef, undef, undef, undef, undef, undef, undef, undef, undef, undef], defers := [] }) ?assign ?body ?done ?stop
  case assign =>
    intro l x W K hK
    gi_wp2
    exact hK
  case stop =>
    rintro D cd pre W _ _ h _
    exact h.elim
  case done =>
    rintro D ys W hD hS ⟨ek, ev, sv, hI⟩ hK
    have g0 : W.cell? ⟨w.heap.size + 1 + 1, 0, none⟩ = some (.bool (seen ys).isNone) := by rw [cell_of_row _ _ _ _ _ _ hI.got]; rfl
    have g1 : W.cell? ⟨w.heap.size + 1 + 1, 1, none⟩ = some ek := by rw [cell_of_row _ _ _ _ _ _ hI.got]; rfl
    have g2 : W.cell? ⟨w.heap.size + 1 + 1, 2, none⟩ = some ev := by rw [cell_of_row _ _ _ _ _ _ hI.got]; rfl
    have g3 : W.cell? ⟨w.heap.size + 1 + 1, 3, none⟩ = some sv := by rw [cell_of_row _ _ _ _ _ _ hI.got]; rfl
    have u0 : W.cell? ⟨w.heap.size + 1, 0, none⟩ = some (.bool false) := by rw [cell_of_row _ _ _ _ _ _ hI.out]; rfl
    have u1 : W.cell? ⟨w.heap.size + 1, 1, none⟩ = some (.slice none 0 0) := by rw [cell_of_row _ _ _ _ _ _ hI.out]; rfl
    have u2 : W.cell? ⟨w.heap.size + 1, 2, none⟩ = some (.slice none 0 0) := by rw [cell_of_row _ _ _ _ _ _ hI.out]; rfl
    have u3 : W.cell? ⟨w.heap.size + 1, 3, none⟩ = some (.slice none 0 0) := by rw [cell_of_row _ _ _ _ _ _ hI.out]; rfl
    have uf : ∀ j, W.frozen? ⟨w.heap.size + 1, j, none⟩ = false := fun j => by simp [World.frozen?, hI.out]
    obtain ⟨a3, c3', rfl⟩ := hI.ke.form
    obtain ⟨a4, c4', rfl⟩ := hI.ve.form
    obtain ⟨a5, n5, c5', rfl⟩ : ∃ a n c, sv = .slice a n c := by
      rcases hI.st.2 with ⟨rfl, _⟩ | ⟨g, cap, cur, rfl, _⟩
      · exact ⟨none, 0, 0, rfl⟩
      · exact ⟨_, _, _, rfl⟩
    have HI := hid hI
    clear hI
    gi_wp2
    generalize hW4 : (((W.setCell _ _).setCell _ _).setCell _ _).setCell _ _ = W4
    obtain ⟨d1, d2, d3, d4, d5, d6⟩ := path_done HI.out (by omega) hK W4 hW4
    have dk := HI.out.kva
    rw [seen_all ys hS] at d2 d3 d4 dk
    rw [walked_all ys hS] at d5
    refine ⟨by simp, .inl ⟨_, _, rfl, run_takeDeferred d1, ?_⟩⟩
    refine ⟨_, results_cell_row (p := 4) (ty := 59) rfl _ _ (w.heap.size + 1) 59 _ (0, 0) _ rfl d2 Tryd.underlying59 rfl Tryd.infoProof, _, _, _, ?_, d3, d4, d5, dk, d6⟩
    cases o <;> rfl
  case body =>
    rintro l pre ⟨x, hx⟩ W ⟨ek, ev, sv, hI⟩ hlt
    cases o with
    | none => cases hx
    | some X =>
    have hxl := (Nod.way_lies (ht.lies X rfl) x hx).new hI.below
    have hxw := Nod.ok_way (show X.tri.WF from ht.wf) x hx
    have hxb : x.blk < w.heap.size := ht.lt _ (.inr ⟨X, rfl, Nod.way_blks x hx _ x.blk_mem⟩)
    have HI := hid hI
    cases x with
    | leaf b lk lv k' v' =>
      have hsh : Tri.short (k', v') := Tri.short_of (.leaf k' v') hxw _ (by simp [Tri.ents])
      obtain ⟨ak, ck, rfl, _⟩ := id hxl.2.1
      obtain ⟨av, cv, rfl, _⟩ := id hxl.2.2
      have q0 : W.cell? ⟨b, 0, none⟩ = some (.slice ak k'.length ck) := by rw [cell_of_row _ _ _ _ _ _ hxl.1]; rfl
      have q1 : W.cell? ⟨b, 1, none⟩ = some (.slice av v'.length cv) := by rw [cell_of_row _ _ _ _ _ _ hxl.1]; rfl
      have hL := isLeaf_any b none W (by rw [cell_of_row _ _ _ _ _ _ hxl.1]; rfl)
      simp only [Option.isNone_none] at hL
      have HC := entry_any _ _ k' v' W hxl.2.1 hxl.2.2 (by have := hsh.1; simp at this; omega) (by have := hsh.2; simp at this; omega)
      have hbig := hI.big
      simp only [Nod.at']
      rw [show (Nod.leaf b (.slice ak k'.length ck) (.slice av v'.length cv) k' v').blk = b from rfl]
      clear hI hxl
      gi_wp2_with (refine ⟨trivial, ?_⟩; first
        | (gi_at_call 52; refine (callsIn_round hL).mono ?_; clear hL; rintro e W ⟨rfl, rfl⟩)
        | (gi_at_call 41; refine (callsIn_round HC).mono ?_; clear HC; rintro e w3 ⟨kv', vv', rfl, hk3, hv3, hap3, hb3⟩
           obtain ⟨a3, c3', rfl⟩ := hk3.form
           obtain ⟨a4, c4', rfl⟩ := hv3.form
           have hgot3 := (hb3.block (w.heap.size + 2) (by omega)).trans HI.out.got
           have r0 : w3.cell? ⟨w.heap.size + 1 + 1, 0, none⟩ = some (.bool (seen pre).isNone) := by rw [cell_of_row _ _ _ _ _ _ hgot3]; rfl
           have r1 : w3.cell? ⟨w.heap.size + 1 + 1, 1, none⟩ = some ek := by rw [cell_of_row _ _ _ _ _ _ hgot3]; rfl
           have r2 : w3.cell? ⟨w.heap.size + 1 + 1, 2, none⟩ = some ev := by rw [cell_of_row _ _ _ _ _ _ hgot3]; rfl
           have rf : ∀ j, w3.frozen? ⟨w.heap.size + 1 + 1, j, none⟩ = false := fun j => by simp [World.frozen?, hgot3]
           have HF := hid (fun B => path_leaf (B := B) HI.out ⟨.leaf b (.slice ak k'.length ck) (.slice av v'.length cv) k' v', hx⟩ rfl rfl hb3 hk3 hv3 hap3)
           clear hk3 hv3 hap3 hb3 hgot3))
      exact ⟨(HF.out _).1, (HF.out 0).2.1, (HF.out 0).2.2⟩
    | fork b p yl yr =>
      have HX := hid hxl
      have hp := Tri.place_bound p _ _ hxw
      have h2 : W.cell? ⟨b, 2, none⟩ = some (.int .i64 p) := by rw [cell_of_row _ _ _ _ _ _ hxl.1]; rfl
      have h3 : W.cell? ⟨b, 3, none⟩ = some yl.at' := by rw [cell_of_row _ _ _ _ _ _ hxl.1]; rfl
      have h4 : W.cell? ⟨b, 4, none⟩ = some yr.at' := by rw [cell_of_row _ _ _ _ _ _ hxl.1]; rfl
      have hL := isLeaf_any b (some ⟨yl.blk, 0, none⟩) W h3
      simp only [Option.isNone_some] at hL
      simp only [Nod.at']
      rw [show (Nod.fork b p yl yr).blk = b from rfl]
      have hS0 : (fun W' : World => W'.cell? ⟨w.heap.size + 1 + 1, 3, none⟩ = some sv ∧ W'.cell? ⟨b, 2, none⟩ = some (.int .i64 p) ∧ W'.cell? ⟨w.heap.size, 0, none⟩ = some (.slice a key.length c)) W.drew := ⟨by show W.cell? _ = _; rw [cell_of_row _ _ _ _ _ _ hI.got]; rfl, h2, by show W.cell? _ = _; rw [cell_of_row _ _ _ _ _ _ hI.box]; rfl⟩
      clear hI hxl
      gi_wp2_with (refine ⟨trivial, ?_⟩; gi_at_call 52; refine (callsIn_round hL).mono ?_; clear hL; rintro e W ⟨rfl, rfl⟩)
      refine last_in_round (fun W' : World => W'.cell? ⟨w.heap.size + 1 + 1, 3, none⟩ = some sv ∧ W'.cell? ⟨b, 2, none⟩ = some (.int .i64 p) ∧ W'.cell? ⟨w.heap.size, 0, none⟩ = some (.slice a key.length c)) 20 (by kernel_rfl) (by kernel_rfl) (by rintro ⟨_, _, h⟩; exact h) ?_
      refine wpAnyE_take (i := 0) (v := ?_) rfl (by kernel_rfl) (by kernel_rfl) (by kernel_rfl) (by kernel_rfl) (by kernel_rfl) (fun _ _ _ h => h) (Or.inl ⟨by rfl, ?_⟩) (by assumption) ?_; rotate_left; (focus (intro w hSw; (try dsimp only at hSw); (try obtain ⟨hSw1, hSw2, hSw3⟩ := hSw); go_simp <;> with_reducible rfl)); (try simp only [Act.put, List.getElem_toArray, List.getElem_cons_zero, List.getElem_cons_succ, List.setIfInBounds_toArray, List.set_cons_zero, List.set_cons_succ])
      refine wpAnyE_take (i := 1) (v := ?_) rfl (by kernel_rfl) (by kernel_rfl) (by kernel_rfl) (by kernel_rfl) (by kernel_rfl) (fun _ _ _ h => h) (Or.inl ⟨by rfl, ?_⟩) (by assumption) ?_; rotate_left; (focus (intro w hSw; (try dsimp only at hSw); (try obtain ⟨hSw1, hSw2, hSw3⟩ := hSw); go_simp <;> with_reducible rfl)); (try simp only [Act.put, List.getElem_toArray, List.getElem_cons_zero, List.getElem_cons_succ, List.setIfInBounds_toArray, List.set_cons_zero, List.set_cons_succ])
      refine wpAnyE_take (i := 2) (v := ?_) rfl (by kernel_rfl) (by kernel_rfl) (by kernel_rfl) (by kernel_rfl) (by kernel_rfl) (fun _ _ _ h => h) (Or.inl ⟨by rfl, ?_⟩) (by assumption) ?_; rotate_left; (focus (intro w hSw; (try dsimp only at hSw); (try obtain ⟨hSw1, hSw2, hSw3⟩ := hSw); go_simp <;> with_reducible rfl)); (try simp only [Act.put, List.getElem_toArray, List.getElem_cons_zero, List.getElem_cons_succ, List.setIfInBounds_toArray, List.set_cons_zero, List.set_cons_succ])
      refine wpAnyE_take (i := 3) (v := ?_) rfl (by kernel_rfl) (by kernel_rfl) (by kernel_rfl) (by kernel_rfl) (by kernel_rfl) (fun _ _ _ h => h) (Or.inl ⟨by rfl, ?_⟩) (by assumption) ?_; rotate_left; (focus (intro w hSw; (try dsimp only at hSw); (try obtain ⟨hSw1, hSw2, hSw3⟩ := hSw); go_simp <;> with_reducible rfl)); (try simp only [Act.put, List.getElem_toArray, List.getElem_cons_zero, List.getElem_cons_succ, List.setIfInBounds_toArray, List.set_cons_zero, List.set_cons_succ])
      refine wpAnyE_take (i := 4) (v := ?_) rfl (by kernel_rfl) (by kernel_rfl) (by kernel_rfl) (by kernel_rfl) (by kernel_rfl) (fun _ _ _ h => h) (Or.inl ⟨by rfl, ?_⟩) (by assumption) ?_; rotate_left; (focus (intro w hSw; (try dsimp only at hSw); (try obtain ⟨hSw1, hSw2, hSw3⟩ := hSw); go_simp <;> with_reducible rfl)); (try simp only [Act.put, List.getElem_toArray, List.getElem_cons_zero, List.getElem_cons_succ, List.setIfInBounds_toArray, List.set_cons_zero, List.set_cons_succ])
      refine wpAnyE_take (i := 5) (v := ?_) rfl (by kernel_rfl) (by kernel_rfl) (by kernel_rfl) (by kernel_rfl) (by kernel_rfl) (fun _ _ _ h => h) (Or.inl ⟨by rfl, ?_⟩) (by assumption) ?_; rotate_left; (focus (intro w hSw; (try dsimp only at hSw); (try obtain ⟨hSw1, hSw2, hSw3⟩ := hSw); go_simp <;> with_reducible rfl)); (try simp only [Act.put, List.getElem_toArray, List.getElem_cons_zero, List.getElem_cons_succ, List.setIfInBounds_toArray, List.set_cons_zero, List.set_cons_succ])
      refine wpAnyE_take (i := 6) (v := ?_) rfl (by kernel_rfl) (by kernel_rfl) (by kernel_rfl) (by kernel_rfl) (by kernel_rfl) (fun _ _ _ h => h) (Or.inl ⟨by rfl, ?_⟩) (by assumption) ?_; rotate_left; (focus (intro w hSw; (try dsimp only at hSw); (try obtain ⟨hSw1, hSw2, hSw3⟩ := hSw); go_simp <;> with_reducible rfl)); (try simp only [Act.put, List.getElem_toArray, List.getElem_cons_zero, List.getElem_cons_succ, List.setIfInBounds_toArray, List.set_cons_zero, List.set_cons_succ])
      refine wpAnyE_take (i := 7) (v := ?_) rfl (by kernel_rfl) (by kernel_rfl) (by kernel_rfl) (by kernel_rfl) (by kernel_rfl) (fun _ _ _ h => h) (Or.inl ⟨by rfl, ?_⟩) (by assumption) ?_; rotate_left; (focus (intro w hSw; (try dsimp only at hSw); (try obtain ⟨hSw1, hSw2, hSw3⟩ := hSw); go_simp <;> with_reducible rfl)); (try simp only [Act.put, List.getElem_toArray, List.getElem_cons_zero, List.getElem_cons_succ, List.setIfInBounds_toArray, List.set_cons_zero, List.set_cons_succ])
      refine wpAnyE_take (i := 8) (v := ?_) rfl (by kernel_rfl) (by kernel_rfl) (by kernel_rfl) (by kernel_rfl) (by kernel_rfl) (fun _ _ _ h => h) (Or.inl ⟨by rfl, ?_⟩) (by assumption) ?_; rotate_left; (focus (intro w hSw; (try dsimp only at hSw); (try obtain ⟨hSw1, hSw2, hSw3⟩ := hSw); go_simp <;> with_reducible rfl)); (try simp only [Act.put, List.getElem_toArray, List.getElem_cons_zero, List.getElem_cons_succ, List.setIfInBounds_toArray, List.set_cons_zero, List.set_cons_succ])
      refine wpAnyE_take (i := 9) (v := ?_) rfl (by kernel_rfl) (by kernel_rfl) (by kernel_rfl) (by kernel_rfl) (by kernel_rfl) (fun _ _ _ h => h) (Or.inl ⟨by rfl, ?_⟩) (by assumption) ?_; rotate_left; (focus (intro w hSw; (try dsimp only at hSw); (try obtain ⟨hSw1, hSw2, hSw3⟩ := hSw); go_simp <;> with_reducible rfl)); (try simp only [Act.put, List.getElem_toArray, List.getElem_cons_zero, List.getElem_cons_succ, List.setIfInBounds_toArray, List.set_cons_zero, List.set_cons_succ])
      refine wpAnyE_take (i := 10) (v := ?_) rfl (by kernel_rfl) (by kernel_rfl) (by kernel_rfl) (by kernel_rfl) (by kernel_rfl) (fun _ _ _ h => h) (Or.inl ⟨by rfl, ?_⟩) (by assumption) ?_; rotate_left; (focus (intro w hSw; (try dsimp only at hSw); (try obtain ⟨hSw1, hSw2, hSw3⟩ := hSw); go_simp <;> with_reducible rfl)); (try simp only [Act.put, List.getElem_toArray, List.getElem_cons_zero, List.getElem_cons_succ, List.setIfInBounds_toArray, List.set_cons_zero, List.set_cons_succ])
      refine wpAnyE_take (i := 12) (v := ?_) rfl (by kernel_rfl) (by kernel_rfl) (by kernel_rfl) (by kernel_rfl) (by kernel_rfl) (fun _ _ _ h => h) (Or.inl ⟨by rfl, ?_⟩) (by assumption) ?_; rotate_left; (focus (intro w hSw; (try dsimp only at hSw); (try obtain ⟨hSw1, hSw2, hSw3⟩ := hSw); go_simp <;> with_reducible rfl)); (try simp only [Act.put, List.getElem_toArray, List.getElem_cons_zero, List.getElem_cons_succ, List.setIfInBounds_toArray, List.set_cons_zero, List.set_cons_succ])
      refine wpAnyE_take (i := 13) (v := ?_) rfl (by kernel_rfl) (by kernel_rfl) (by kernel_rfl) (by kernel_rfl) (by kernel_rfl) (fun _ _ _ h => h) (Or.inl ⟨by rfl, ?_⟩) (by assumption) ?_; rotate_left; (focus (intro w hSw; (try dsimp only at hSw); (try obtain ⟨hSw1, hSw2, hSw3⟩ := hSw); go_simp <;> with_reducible rfl)); (try simp only [Act.put, List.getElem_toArray, List.getElem_cons_zero, List.getElem_cons_succ, List.setIfInBounds_toArray, List.set_cons_zero, List.set_cons_succ])
      have hkW : Says W.drew (.slice a key.length c) key := (hk0.new HI.out.below).new (below_drewN _ _ 1)
      have HBIT := bit_any _ _ key p W.drew hkW (by omega) (by omega)
      rw [bitI_nat] at HBIT
      refine takeE_call (i := 11) #[.slice a key.length c, .int .i64 p] (fun v w' => v = .bool (bit key p) ∧ w' = W.drew) (by kernel_rfl) rfl rfl rfl (by kernel_rfl) (enters_of Tryd.func20 (by kernel_rfl) rfl) (HBIT.mono fun e w' ⟨h1, h2⟩ => ⟨_, h1, rfl, h2⟩) ?_
      rintro _ _ ⟨rfl, rfl⟩
      refine ⟨hS0, ?_⟩
      simp only [Act.put, List.getElem_toArray, List.getElem_cons_zero, List.getElem_cons_succ, List.setIfInBounds_toArray, List.set_cons_zero, List.set_cons_succ]
      obtain ⟨y, e1, e2, e3, e4⟩ : ∃ y : Nod, (if bit key p then yl.at' else yr.at') = y.at' ∧ (if bit key p then yl.tri else yr.tri) = y.tri ∧ y.Lies W ∧ y.tri.WF := by
        obtain ⟨_, hll, hlr⟩ := HX.out
        obtain ⟨wl, wr, _⟩ := hxw
        cases bit key p with
        | true => exact ⟨yl, rfl, rfl, hll, wl⟩
        | false => exact ⟨yr, rfl, rfl, hlr, wr⟩
      have HOTH := other_any b p yl.at' yr.at' _ _ key W.drew hkW hp h2 h3 h4
      rw [e1] at HOTH
      refine takeE_call (i := 14) #[.pointer (some ⟨b, 0, none⟩), .slice a key.length c] (fun v w' => v = y.at' ∧ w' = W.drew) (by kernel_rfl) rfl rfl rfl (by kernel_rfl) (enters_of Tryd.func51 (by kernel_rfl) rfl) (HOTH.mono fun e w' ⟨h1, h2⟩ => ⟨_, h1, rfl, h2⟩) ?_
      rintro _ _ ⟨rfl, rfl⟩
      refine ⟨hS0, ?_⟩
      simp only [Act.put, List.getElem_toArray, List.getElem_cons_zero, List.getElem_cons_succ, List.setIfInBounds_toArray, List.set_cons_zero, List.set_cons_succ]
      have HROOT := nroot_any y W.drew (e3.new (below_drewN _ _ 1)) e4 (hT.below HI.out.below.drew (by have := hT.lt; omega))
      refine takeE_call (i := 15) #[y.at'] (fun v w' => v = .agg (sumV (rootT y.tri)) ∧ Below W.heap.size W w') (by kernel_rfl) rfl rfl rfl (by kernel_rfl) (enters_of Tryd.func38 (by kernel_rfl) rfl) (HROOT.mono fun e w' ⟨h1, h2⟩ => ⟨_, h1, rfl, (below_drewN _ _ 1).trans h2⟩) ?_
      rintro _ W1 ⟨rfl, hb1⟩
      have hbig := HI.out.big
      have hS1 : (fun W' : World => W'.cell? ⟨w.heap.size + 1 + 1, 3, none⟩ = some sv ∧ W'.cell? ⟨b, 2, none⟩ = some (.int .i64 p) ∧ W'.cell? ⟨w.heap.size, 0, none⟩ = some (.slice a key.length c)) W1 := ⟨(hb1.cell (p := ⟨w.heap.size + 1 + 1, 3, none⟩) (World.block_lt_of_cell? W _ hS0.1)).trans hS0.1, (hb1.cell (p := ⟨b, 2, none⟩) (World.block_lt_of_cell? W _ hS0.2.1)).trans hS0.2.1, (hb1.cell (p := ⟨w.heap.size, 0, none⟩) (World.block_lt_of_cell? W _ hS0.2.2)).trans hS0.2.2⟩
      refine ⟨hS1, ?_⟩
      simp only [Act.put, List.getElem_toArray, List.getElem_cons_zero, List.getElem_cons_succ, List.setIfInBounds_toArray, List.set_cons_zero, List.set_cons_succ]
      obtain ⟨i0, hi, hz0, hz1, hz2⟩ := info_parts Tryd.infoStep
      have hlen : (stepC (p, bit key p, rootT y.tri)).toArray.size = 34 := by simp [stepC, rootT_length]
      refine takeE_build (i := 16) [(0, .int .i64 p), (1, .bool (bit key p)), (2, .agg (sumV (rootT y.tri)))] (stepC (p, bit key p, rootT y.tri)).toArray (by kernel_rfl) rfl rfl rfl (by kernel_rfl) (built_step p _ _ (by simp [rootT_length])) hS1 ?_
      simp only [Act.put, List.getElem_toArray, List.getElem_cons_zero, List.getElem_cons_succ, List.setIfInBounds_toArray, List.set_cons_zero, List.set_cons_succ]
      have hbA : Below W1.heap.size W1 (W1.alloc (.cells (stepC (p, bit key p, rootT y.tri)).toArray 62)) := (Below.refl _ _).alloc (Nat.le_refl _) _
      have hnA := World.alloc_heap_new W1 (.cells (stepC (p, bit key p, rootT y.tri)).toArray 62)
      have hS2 : (fun W' : World => W'.cell? ⟨w.heap.size + 1 + 1, 3, none⟩ = some sv ∧ W'.cell? ⟨b, 2, none⟩ = some (.int .i64 p) ∧ W'.cell? ⟨w.heap.size, 0, none⟩ = some (.slice a key.length c)) (W1.alloc (.cells (stepC (p, bit key p, rootT y.tri)).toArray 62)) := ⟨(hbA.cell (p := ⟨w.heap.size + 1 + 1, 3, none⟩) (World.block_lt_of_cell? W1 _ hS1.1)).trans hS1.1, (hbA.cell (p := ⟨b, 2, none⟩) (World.block_lt_of_cell? W1 _ hS1.2.1)).trans hS1.2.1, (hbA.cell (p := ⟨w.heap.size, 0, none⟩) (World.block_lt_of_cell? W1 _ hS1.2.2)).trans hS1.2.2⟩
      refine takeE_slice (i := 17) (stepC (p, bit key p, rootT y.tri)).toArray i0 _ (by kernel_rfl) rfl rfl rfl (by kernel_rfl) Tryd.underlying57 hi hz0 (by rw [hz1, hlen]) (by rw [hlen]; omega) (by rw [hlen]; omega) hS2 ?_
      simp only [Act.put, List.getElem_toArray, List.getElem_cons_zero, List.getElem_cons_succ, List.setIfInBounds_toArray, List.set_cons_zero, List.set_cons_succ]
      have hb2 : Below W.heap.size W (W1.alloc (.cells (stepC (p, bit key p, rootT y.tri)).toArray 62)) := hb1.trans (hbA.mono hb1.size)
      generalize W1.alloc (.cells (stepC (p, bit key p, rootT y.tri)).toArray 62) = W2 at *
      have hown2 := (Spares.of_new (S := fun _ => False) hb2).row HI.out.st (fun _ _ => id)
      have hcnt : (walked pre).length + 1 < 1000000000 := by
        have q1 := walked_le pre
        have q2 := wayO_length (some X) key
        omega
      have hb2z := hb2.size
      refine takeE_append (i := 18) (s := .tmp 22) (x := .tmp 38) (t := 57) (by kernel_rfl) rfl rfl rfl (w.heap.size + 5) 62 i0 _ 34 48 Tryd.underlying57 hi hz0 hz1 hz2 rfl (by decide) sv (walked pre).length ((walked pre).flatMap stepC) (by kernel_rfl) hown2 ⟨W1.heap.size, 0, none⟩ 1 1 (stepC (p, bit key p, rootT y.tri)) (by kernel_rfl) (by simpa using hlen) (by have := World.news_of_block hnA; simpa using this) (stepC_one _) (by decide) (by unfold maxLen; omega) (by omega) (by omega) ?_
      intro g cap W3 hown3 hgrow hat hglt
      have hlow : ∀ i, sv.ownBlock = some i → w.heap.size + 5 ≤ i ∧ i < W.heap.size := fun i hi => HI.out.st.lt i hi
      have hS3 : (fun W' : World => W'.cell? ⟨w.heap.size + 1 + 1, 3, none⟩ = some sv ∧ W'.cell? ⟨b, 2, none⟩ = some (.int .i64 p) ∧ W'.cell? ⟨w.heap.size, 0, none⟩ = some (.slice a key.length c)) W3 := ⟨(hgrow.cell_far ⟨w.heap.size + 1 + 1, 3, none⟩ (World.block_lt_of_cell? W2 _ hS2.1) (fun e => by have h1 : w.heap.size + 5 ≤ w.heap.size + 1 + 1 := (hlow _ e.symm).1; omega)).trans hS2.1, (hgrow.cell_far ⟨b, 2, none⟩ (World.block_lt_of_cell? W2 _ hS2.2.1) (fun e => by have h1 : w.heap.size + 5 ≤ b := (hlow _ e.symm).1; have h2 : b < w.heap.size := hxb; omega)).trans hS2.2.1, (hgrow.cell_far ⟨w.heap.size, 0, none⟩ (World.block_lt_of_cell? W2 _ hS2.2.2) (fun e => by have h1 : w.heap.size + 5 ≤ w.heap.size := (hlow _ e.symm).1; omega)).trans hS2.2.2⟩
      have hfr : W3.frozen? ⟨w.heap.size + 1 + 1, 3, none⟩ = false := by
        rw [hgrow.frozen_far ⟨w.heap.size + 1 + 1, 3, none⟩ (World.block_lt_of_cell? W2 _ hS2.1) (fun e => by have h1 : w.heap.size + 5 ≤ w.heap.size + 1 + 1 := (hlow _ e.symm).1; omega)]
        have hgot2 := (hb2.block (w.heap.size + 2) (by omega)).trans HI.out.got
        simp [World.frozen?, hgot2]
      have HF := hid (fun B => path_fork (B := B) HI.out ⟨.fork b p yl yr, hx⟩ (p, bit key p, rootT y.tri) (by simp only [Nod.stp, e2]) rfl hb2 hgrow hown3 hat)
      refine ⟨hS3, ?_⟩
      simp only [Act.put, List.getElem_toArray, List.getElem_cons_zero, List.getElem_cons_succ, List.setIfInBounds_toArray, List.set_cons_zero, List.set_cons_succ]
      clear hown3 hgrow hat hlow hown2 hnA hS2 hS1 hb2 hb1 hbA HROOT HOTH HBIT
      refine wpAnyE_take (i := 19) (v := ?_) rfl (by kernel_rfl) (by kernel_rfl) (by kernel_rfl) (by kernel_rfl) (by kernel_rfl) (fun _ _ _ h => h) (Or.inl ⟨by rfl, ?_⟩) (by assumption) ?_; rotate_left; (focus (intro w hSw; (try dsimp only at hSw); (try obtain ⟨hSw1, hSw2, hSw3⟩ := hSw); go_simp <;> with_reducible rfl)); (try simp only [Act.put, List.getElem_toArray, List.getElem_cons_zero, List.getElem_cons_succ, List.setIfInBounds_toArray, List.set_cons_zero, List.set_cons_succ])
      refine takeE_store (i := 20) (pi := ⟨w.heap.size + 1 + 1, 3, none⟩) (v := .slice (some ⟨g, 0, none⟩) ((walked pre).length + 1) cap) Tryd.infoSteps (by kernel_rfl) rfl rfl rfl rfl (by kernel_rfl) (by kernel_rfl) rfl rfl hS3.1 hfr (.inr rfl) ?_
      refine wpAnyE_done (by kernel_rfl) ?_ _
      gi_wp2
      exact ⟨(HF.out _).1, (HF.out 0).2.1, (HF.out 0).2.2⟩
end Go.Proofs.YthkeofinamedfaaDoor
