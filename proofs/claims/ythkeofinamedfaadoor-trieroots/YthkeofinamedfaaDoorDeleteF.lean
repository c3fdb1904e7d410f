/- Contract of trie.Tree.Delete. -/
import Derived.Test.YthkeofinamedfaaDoorDelP
namespace Go.Proofs.YthkeofinamedfaaDoor
open Go.RowKit Go.Shelf
set_option linter.unusedVariables false
set_option maxRecDepth 20000
attribute [local go_sem] Oper.semAt_some

/-- What the loop has in hand. -/
structure DelI (w : World) {o : Option Nod} {key : List UInt8} (pre : List (Step o key)) (W : World) : Prop where
  up : W.heap[w.heap.size]? = some (.cells #[.pointer (prevOf pre)] 67 (0, 0))
  last : W.heap[w.heap.size + 1]? = some (.cells #[.pointer (lastOf pre)] 67 (0, 0))
  below : Below w.heap.size w W
  big : w.heap.size + 4 ≤ W.heap.size

theorem delI_own {w : World} {o : Option Nod} {key : List UInt8} {B : Nat} (hB : w.heap.size ≤ B) : OwnFrom B (fun (pre : List (Step o key)) W => DelI w pre W) := fun s W W' row h hg hr =>
  ⟨cells_own () W W' row h.up hg hr, cells_own () W W' row h.last hg hr, (spares_own (S := fun _ => False) hB () W W' row (Spares.of_new h.below) hg hr).below (fun i hi => hi.elim) (Nat.le_refl _), Nat.le_trans h.big hg.size⟩

theorem del_round {w W : World} {o : Option Nod} {key : List UInt8} {pre : List (Step o key)} {B : Nat} (h : DelI w pre W) (x : Step o key) :
    KeepsFrom B W ((W.setCell ⟨w.heap.size, 0, none⟩ (.pointer (lastOf pre))).setCell ⟨w.heap.size + 1, 0, none⟩ x.1.at') ∧ KpB w.heap.size (w.heap.size + 3) W ((W.setCell ⟨w.heap.size, 0, none⟩ (.pointer (lastOf pre))).setCell ⟨w.heap.size + 1, 0, none⟩ x.1.at') ∧
      DelI w (pre ++ [x]) ((W.setCell ⟨w.heap.size, 0, none⟩ (.pointer (lastOf pre))).setCell ⟨w.heap.size + 1, 0, none⟩ x.1.at') := by
  have hbig := h.big
  have sp : Spares (fun i => i = w.heap.size ∨ i = w.heap.size + 1) W ((W.setCell ⟨w.heap.size, 0, none⟩ (.pointer (lastOf pre))).setCell ⟨w.heap.size + 1, 0, none⟩ x.1.at') :=
    ((spares_set W ⟨w.heap.size, 0, none⟩ _).mono (fun i hi => .inl hi)).andThen (spares_set _ ⟨w.heap.size + 1, 0, none⟩ _) (fun i hi => .inl (.inr hi))
  have h0 := heap_setCell_same _ _ 0 _ _ (.pointer (lastOf pre)) h.up
  have h1 : (W.setCell ⟨w.heap.size, 0, none⟩ (.pointer (lastOf pre))).heap[w.heap.size + 1]? = _ := (Below.heap_setCell W ⟨w.heap.size, 0, none⟩ _ _ (by simp)).trans h.last
  refine ⟨keepsFrom_of sp ?_, ⟨sp.below (fun i hi => by rcases hi with rfl | rfl <;> omega) (by omega), sp.block _ (by omega) (by omega)⟩, ?_, ?_, h.below.trans (sp.below (fun i hi => by rcases hi with rfl | rfl <;> omega) h.below.size), Nat.le_trans hbig sp.size⟩
  · rintro i (rfl | rfl)
    · exact ⟨_, _, _, h.up⟩
    · exact ⟨_, _, _, h.last⟩
  · rw [prevOf_snoc]
    exact (Below.heap_setCell _ ⟨w.heap.size + 1, 0, none⟩ _ _ (by simp)).trans h0
  · rw [lastOf_snoc]
    exact heap_setCell_same _ _ 0 _ _ x.1.at' h1

theorem only_normal (Q : Exit → Act → World → Prop) (a : Act) (w : World) : Only Q .normal a w = Q .normal a w := rfl

theorem inBlock_normal (n : Nat) (Q : Exit → Act → World → Prop) (a : Act) (w : World) : Exit.inBlock n Q .normal a w = Q .normal a w := rfl

set_option linter.unusedSimpArgs false
set_option maxHeartbeats 4000000 in
theorem delete_any (tb : Nat) (o : Option Nod) (kv : Value) (key : List UInt8) (w : World) (ht : TreeAt w tb o) (hk : Says w kv key) (hfew : (Tri.entsO (triO o)).length < 1000000000) :
    Calls Tryd.prog 25 #[.pointer (some ⟨tb, 0, none⟩), kv] w fun e w' => e = .returned (.bool (look (triO o) key).isSome) ∧
      ((look (triO o) key = none ∧ Below w.heap.size w w') ∨ ∃ x, o = some x ∧ (x.tri.near key).1 = key ∧ DelEnd tb x key w w') := by
  have hk0 := hk
  obtain ⟨a, c, rfl, g1, g2, gn, g3⟩ := hk
  clear g3 gn
  refine (callsIn_wide (n := 3)).1 ?_
  refine callsIn_of_wp_marks Tryd.func25 rfl trivial ?_ rfl
  simp only [Tryd.ntmps25, List.size_toArray, List.length_cons, List.length_nil, Nat.reduceAdd, Nat.reduceSub, Array.replicate_succ, Array.replicate_zero, List.push_toArray, List.append_toArray, List.nil_append, List.cons_append]
  gi_wp2_with (refine ⟨trivial, ?_⟩; gi_at_call 50; refine (callsIn_wide.2 (down_any _ _ _ _ _)).mono ?_; rintro e w' ⟨rfl, rfl⟩)
  obtain ⟨w4, hw4, c0, c1, c2, c3, hB0, hsz⟩ := alloc4 w (.cells #[.pointer none] 67) (.cells #[.pointer none] 67) (.cells #[.pointer (some ⟨tb, 0, none⟩)] 24) (.cells #[.slice a key.length c] 28)
  rw [hw4]
  clear hw4
  have ht4 := ht.new hB0
  have hs4 : Shows w.heap.size w4 (.slice a key.length c) key := hk0.below hB0
  refine wpIn_rangeFunc_ownG rfl (by omega) (gf := 71) (lb := #[.pointer (some ⟨w.heap.size + 1 + 1, 0, none⟩), .pointer (some ⟨w.heap.size + 1 + 1 + 1, 0, none⟩)]) rfl trivial (enters_of Tryd.func71 (by kernel_rfl) rfl)
    (down_stops _ (w.heap.size + 1 + 1) (w.heap.size + 1 + 1 + 1) w.heap.size tb a key.length c key o w4 (by rw [cell_of_row _ _ _ _ _ _ c2]; rfl) c3 hs4 ht4 ht.lt (by omega)) kpB_t (kpB_b (by omega) (by omega)) (Below.refl _ _) (fun _ => rfl)
    (fun pre W => DelI w pre W)
    (fun _ _ _ => False)
    (delI_own (by omega))
    (fun _ _ _ _ _ hs _ _ => hs)
    ⟨c0, c1, hB0, by omega⟩
    (fun y => { tmps := #[.pointer (some ⟨tb, 0, none⟩), .slice a key.length c, undef, undef, .bool false, .pointer (some ⟨w.heap.size, 0, none⟩), .pointer (some ⟨w.heap.size + 1, 0, none⟩), y.1.at', .pointer (some ⟨tb, 0, none⟩), .slice a key.length c, .func (.func 71) #[] #[.pointer (some ⟨w.heap.size + 1 + 1, 0, none⟩), .pointer (some ⟨w.heap.size + 1 + 1 + 1, 0, none⟩)], y.1.at', undef, undef, undef, undef, undef, undef, undef, undef, undef, undef, undef, undef, undef, undef, undef, undef, undef, undef, undef, undef, undef, undef, undef, undef, undef, undef, undef, undef, undef, undef, undef, undef, undef], defers := [] }) ?assign ?body ?done ?stop
  case assign =>
    intro l x W K hK
    gi_wp2
    exact hK
  case stop =>
    rintro D cd pre W _ _ h _
    exact h.elim
  case body =>
    rintro l pre ⟨x, hx⟩ W hI _
    have HF := hid (fun B => del_round (B := B) hI ⟨x, hx⟩)
    have q0 : W.cell? ⟨w.heap.size, 0, none⟩ = some (.pointer (prevOf pre)) := by rw [cell_of_row _ _ _ _ _ _ hI.up]; rfl
    have q1 : W.cell? ⟨w.heap.size + 1, 0, none⟩ = some (.pointer (lastOf pre)) := by rw [cell_of_row _ _ _ _ _ _ hI.last]; rfl
    have f0 : W.frozen? ⟨w.heap.size, 0, none⟩ = false := by simp [World.frozen?, hI.up]
    have f1 : W.frozen? ⟨w.heap.size + 1, 0, none⟩ = false := by simp [World.frozen?, hI.last]
    obtain ⟨b, hb⟩ : ∃ b, x.blk = b := ⟨_, rfl⟩
    simp only [Nod.at', hb] at HF ⊢
    clear hI
    gi_wp2
    exact ⟨(HF.out _).1, (HF.out 0).2.1, (HF.out 0).2.2⟩
  case done =>
    rintro D ys W hD hS hI hK
    cases o with
    | none =>
      have e0 : ys = [] := by cases ys with | nil => rfl | cons y r => simp [wayO] at hS
      subst e0
      have q1 : W.cell? ⟨w.heap.size + 1, 0, none⟩ = some (.pointer none) := by rw [cell_of_row _ _ _ _ _ _ hI.last]; rfl
      have HB := hid hI.below
      clear hI hS
      simp only [inBlock_normal]
      gi_wp2
      refine ⟨trivial, ?_⟩
      gi_wp2
      refine ⟨by simp, .inl ⟨_, _, rfl, run_takeDeferred hK, ?_⟩⟩
      exact ⟨_, results_tmp rfl _ _ _, rfl, .inl ⟨rfl, HB.out.trans (belowK_b (w := w) (Nat.le_refl _) W D _ _ (by omega) hK rfl rfl)⟩⟩
    | some x =>
      have hl : lastOf ys = _ := lastOf_all ys hS
      have hp := prevOf_all ys hS
      obtain ⟨b, lk, lv, k', v', he, hnr⟩ := Nod.end_leaf x key
      have hlx := (Nod.way_lies (ht.lies x rfl) _ (Nod.end_mem x key))
      rw [he] at hlx
      have hbl : b < w.heap.size := (Array.getElem?_eq_some_iff.1 hlx.1).1
      simp only [endO, he, Nod.blk] at hl
      have hup := hI.up
      have hla := hI.last
      rw [hp] at hup
      rw [hl] at hla
      obtain ⟨ak, ck, rfl, _⟩ := id hlx.2.1
      have q1 : W.cell? ⟨w.heap.size + 1, 0, none⟩ = some (.pointer (some ⟨b, 0, none⟩)) := by rw [cell_of_row _ _ _ _ _ _ hla]; rfl
      have q2 : W.cell? ⟨b, 0, none⟩ = some (.slice ak k'.length ck) := by rw [hI.below.cell (p := ⟨b, 0, none⟩) hbl, cell_of_row _ _ _ _ _ _ hlx.1]; rfl
      have HE := equal_any _ _ (.slice ak k'.length ck) (.slice a key.length c) k' key W (hlx.2.1.new hI.below) (hk0.new hI.below)
      have hlook : look (triO (some x)) key = if k' = key then some v' else none := by simp [look, triO, hnr]
      have HB := hid hI.below
      have hbig := hI.big
      by_cases hkk : k' = key
      · rw [decide_eq_true hkk] at HE
        rw [if_pos hkk] at hlook
        have HLK := hid hlook
        have hnk : (x.tri.near key).1 = key := by rw [hnr]; exact hkk
        have hhd := (hI.below.block tb (block_lt ht.head)).trans ht.head
        have htb : tb < w.heap.size := block_lt ht.head
        obtain ⟨n, hn⟩ : ∃ n, (Tri.entsO (triO (some x))).length = n := ⟨_, rfl⟩
        have hpos : 0 < n := by rw [← hn]; exact Tri.ents_pos x.tri
        rw [hn] at hhd hfew
        have t0 : W.cell? ⟨tb, 0, none⟩ = some (.pointer (topOf (some x))) := by rw [cell_of_row _ _ _ _ _ _ hhd]; rfl
        have t1 : W.cell? ⟨tb, 1, none⟩ = some (.int .i64 n) := by rw [cell_of_row _ _ _ _ _ _ hhd]; rfl
        have tf : ∀ j, W.frozen? ⟨tb, j, none⟩ = false := fun j => by simp [World.frozen?, hhd]
        cases hab : x.above key with
        | none =>
          have q0 : W.cell? ⟨w.heap.size, 0, none⟩ = some (.pointer none) := by rw [cell_of_row _ _ _ _ _ _ hup, hab]; rfl
          have HHD := hid hhd
          have HN := hid hn
          clear hI hS hlook hup hla hl hp hkk hn
          simp only [inBlock_normal]
          gi_wp2_with (refine ⟨trivial, ?_⟩; gi_at_call 46; refine (callsIn_wide.2 HE).mono ?_; clear HE; rintro e W ⟨rfl, rfl⟩)
          have sp : Spares (own tb (some x)) W ((W.setCell ⟨tb, 0, none⟩ (.pointer none)).setCell ⟨tb, 1, none⟩ (.int .i64 ((n : Int) - 1))) := (spares_set2 W tb 0 1 _ _).mono (fun i hi => .inl hi)
          obtain ⟨d1, d2, d3⟩ := del_last ht HB.out sp (by omega) hK
          refine ⟨by simp, .inl ⟨_, _, rfl, run_takeDeferred d1, ?_⟩⟩
          refine ⟨_, results_tmp rfl _ _ _, by rw [HLK.out]; rfl, .inr ⟨x, rfl, hnk, del_end ht hnk d2 ?_ (fun y hy => by rw [hab] at hy; cases hy)⟩⟩
          rw [d3 tb htb, (Nod.above_none hab).1, show x.tri.ents.length = n from HN.out]
          exact heap_setCell_same _ _ _ _ _ _ (heap_setCell_same _ _ _ _ _ _ HHD.out)
        | some y =>
          obtain ⟨yb, p, yl, yr, hy⟩ := Nod.above_fork hab
          subst hy
          have hyw := Nod.above_way hab
          have hylw := Nod.way_lies (ht.lies x rfl) _ hyw
          have hywf := Nod.ok_way (show x.tri.WF from ht.wf) _ hyw
          have hpb := Tri.place_bound p _ _ hywf
          have hyl := hylw.new hI.below
          have hyb : yb < w.heap.size := (hylw.lt _ (Nod.blk_mem _))
          have hyo : own tb (some x) yb := .inr ⟨x, rfl, Nod.way_blks _ hyw _ (Nod.blk_mem _)⟩
          obtain ⟨z, hzo, hzl, hzat, hznb⟩ : ∃ z, (Nod.fork yb p yl yr).other' key = z ∧ z.Lies W ∧ (if bit key p then yl.at' else yr.at') = z.at' ∧ z.blk ≠ yb := by
            have hnd := Nod.way_nodup (ht.nodup x rfl) _ hyw
            simp only [Nod.blks, List.nodup_cons, List.mem_append, not_or] at hnd
            cases hb : bit key p with
            | true => exact ⟨yl, by simp [Nod.other', hb], hyl.2.1, by simp, fun e => hnd.1.1 (by rw [← e]; exact yl.blk_mem)⟩
            | false => exact ⟨yr, by simp [Nod.other', hb], hyl.2.2, by simp, fun e => hnd.1.2 (by rw [← e]; exact yr.blk_mem)⟩
          obtain ⟨z1, n1, e1, z2, n2, e2, m, q3, q4, hzc⟩ := node_cells hzl
          have hzb := hzl.block
          rw [hzc] at hzb
          obtain ⟨zb, hzbe⟩ : ∃ zb, z.blk = zb := ⟨_, rfl⟩
          simp only [Nod.at', hzbe] at hzat hzb hznb
          have q0 : W.cell? ⟨w.heap.size, 0, none⟩ = some (.pointer (some ⟨yb, 0, none⟩)) := by rw [cell_of_row _ _ _ _ _ _ hup, hab]; rfl
          have HOT := other_any yb p yl.at' yr.at' _ _ key W.drew (hk0.new (hI.below.drew)) hpb (by show W.cell? _ = _; rw [cell_of_row _ _ _ _ _ _ hyl.1]; rfl) (by show W.cell? _ = _; rw [cell_of_row _ _ _ _ _ _ hyl.1]; rfl) (by show W.cell? _ = _; rw [cell_of_row _ _ _ _ _ _ hyl.1]; rfl)
          simp only [Nod.at', hzat] at HOT
          have hSd : W.drew.cell? ⟨w.heap.size, 0, none⟩ = some (.pointer (some ⟨yb, 0, none⟩)) ∧ W.drew.cell? ⟨zb, 0, none⟩ = some (.slice z1 n1 e1) ∧ W.drew.cell? ⟨zb, 1, none⟩ = some (.slice z2 n2 e2) ∧ W.drew.cell? ⟨zb, 2, none⟩ = some (.int .i64 m) ∧ W.drew.cell? ⟨zb, 3, none⟩ = some (.pointer q3) ∧ W.drew.cell? ⟨zb, 4, none⟩ = some (.pointer q4) := by
            refine ⟨q0, ?_, ?_, ?_, ?_, ?_⟩ <;> (show W.cell? _ = _; rw [cell_of_row _ _ _ _ _ _ hzb]; rfl)
          have y0 : W.drew.cell? ⟨yb, 0, none⟩ = some (.slice none 0 0) := by show W.cell? _ = _; rw [cell_of_row _ _ _ _ _ _ hyl.1]; rfl
          have y1 : W.drew.cell? ⟨yb, 1, none⟩ = some (.slice none 0 0) := by show W.cell? _ = _; rw [cell_of_row _ _ _ _ _ _ hyl.1]; rfl
          have y2 : W.drew.cell? ⟨yb, 2, none⟩ = some (.int .i64 p) := by show W.cell? _ = _; rw [cell_of_row _ _ _ _ _ _ hyl.1]; rfl
          have y3 : W.drew.cell? ⟨yb, 3, none⟩ = some yl.at' := by show W.cell? _ = _; rw [cell_of_row _ _ _ _ _ _ hyl.1]; rfl
          have y4 : W.drew.cell? ⟨yb, 4, none⟩ = some yr.at' := by show W.cell? _ = _; rw [cell_of_row _ _ _ _ _ _ hyl.1]; rfl
          have yf : ∀ j, W.drew.frozen? ⟨yb, j, none⟩ = false := fun j => by show W.frozen? _ = _; simp [World.frozen?, hyl.1]
          have ne1 : yb ≠ w.heap.size := by omega
          have ne2 : yb ≠ zb := fun e => hznb e.symm
          have HHD := hid hhd
          have HN := hid hn
          have HYL := hid hyl
          have HZB := hid hzb
          have HZ := hid (And.intro hzo hzc)
          clear hI hS hlook hup hla hl hp hkk hn hyl hylw hzl hzb
          simp only [inBlock_normal]
          gi_wp2_with (refine ⟨trivial, ?_⟩; gi_at_call 46; refine (callsIn_wide.2 HE).mono ?_; clear HE; rintro e W ⟨rfl, rfl⟩)
          refine wpIn_wide.2 ?_
          have hS0 : (fun w' : World => w'.cell? ⟨w.heap.size, 0, none⟩ = some (.pointer (some ⟨yb, 0, none⟩)) ∧ True ∧ True) W.drew := ⟨q0, trivial, trivial⟩
          refine last_region (fun w' : World => w'.cell? ⟨w.heap.size, 0, none⟩ = some (.pointer (some ⟨yb, 0, none⟩)) ∧ True ∧ True) 7 (by kernel_rfl) ?_
          refine wpAnyE_take (i := 0) (v := ?_) rfl (by kernel_rfl) (by kernel_rfl) (by kernel_rfl) (by kernel_rfl) (by kernel_rfl) (fun _ _ _ h => h) (Or.inl ⟨by rfl, ?_⟩) (by assumption) ?_; rotate_left; (focus (intro w hSw; (try dsimp only at hSw); (try obtain ⟨hSw1, hSw2, hSw3⟩ := hSw); go_simp <;> with_reducible rfl)); (try simp only [Act.put, List.getElem_toArray, List.getElem_cons_zero, List.getElem_cons_succ, List.setIfInBounds_toArray, List.set_cons_zero, List.set_cons_succ])
          refine wpAnyE_take (i := 1) (v := ?_) rfl (by kernel_rfl) (by kernel_rfl) (by kernel_rfl) (by kernel_rfl) (by kernel_rfl) (fun _ _ _ h => h) (Or.inl ⟨by rfl, ?_⟩) (by assumption) ?_; rotate_left; (focus (intro w hSw; (try dsimp only at hSw); (try obtain ⟨hSw1, hSw2, hSw3⟩ := hSw); go_simp <;> with_reducible rfl)); (try simp only [Act.put, List.getElem_toArray, List.getElem_cons_zero, List.getElem_cons_succ, List.setIfInBounds_toArray, List.set_cons_zero, List.set_cons_succ])
          refine wpAnyE_take (i := 2) (v := ?_) rfl (by kernel_rfl) (by kernel_rfl) (by kernel_rfl) (by kernel_rfl) (by kernel_rfl) (fun _ _ _ h => h) (Or.inl ⟨by rfl, ?_⟩) (by assumption) ?_; rotate_left; (focus (intro w hSw; (try dsimp only at hSw); (try obtain ⟨hSw1, hSw2, hSw3⟩ := hSw); go_simp <;> with_reducible rfl)); (try simp only [Act.put, List.getElem_toArray, List.getElem_cons_zero, List.getElem_cons_succ, List.setIfInBounds_toArray, List.set_cons_zero, List.set_cons_succ])
          refine takeE_call (i := 3) #[.pointer (some ⟨yb, 0, none⟩), .slice a key.length c] (fun v w' => v = .pointer (some ⟨zb, 0, none⟩) ∧ w' = W.drew) (by kernel_rfl) rfl rfl rfl (by kernel_rfl) (enters_of Tryd.func51 (by kernel_rfl) rfl) (HOT.mono fun e w' ⟨h1, h2⟩ => ⟨_, h1, rfl, h2⟩) ?_
          rintro _ _ ⟨rfl, rfl⟩
          refine ⟨hS0, ?_⟩
          simp only [Act.put, List.getElem_toArray, List.getElem_cons_zero, List.getElem_cons_succ, List.setIfInBounds_toArray, List.set_cons_zero, List.set_cons_succ]
          refine wpAnyE_take (i := 4) (v := ?_) rfl (by kernel_rfl) (by kernel_rfl) (by kernel_rfl) (by kernel_rfl) (by kernel_rfl) (fun _ _ _ h => h) (Or.inl ⟨by rfl, ?_⟩) (by assumption) ?_; rotate_left; (focus (intro w hSw; (try dsimp only at hSw); (try obtain ⟨hSw1, hSw2, hSw3⟩ := hSw); go_simp <;> with_reducible rfl)); (try simp only [Act.put, List.getElem_toArray, List.getElem_cons_zero, List.getElem_cons_succ, List.setIfInBounds_toArray, List.set_cons_zero, List.set_cons_succ])
          refine takeE_loadrow (i := 5) (by kernel_rfl) rfl rfl 84 (.tmp 35) rfl zb (by kernel_rfl) 84 #[.slice z1 n1 e1, .slice z2 n2 e2, .int .i64 m, .pointer q3, .pointer q4] (0, 0) _ HZB.out Tryd.underlying84 rfl Tryd.infoNode hS0 ?_
          simp only [Act.put, List.getElem_toArray, List.getElem_cons_zero, List.getElem_cons_succ, List.setIfInBounds_toArray, List.set_cons_zero, List.set_cons_succ]
          refine wpAnyE_take (i := 6) (v := ?_) rfl (by kernel_rfl) (by kernel_rfl) (by kernel_rfl) (by kernel_rfl) (by kernel_rfl) (fun _ _ _ h => h) (Or.inl ⟨by rfl, ?_⟩) (by assumption) ?_; rotate_left; (focus (intro w hSw; (try dsimp only at hSw); (try obtain ⟨hSw1, hSw2, hSw3⟩ := hSw); go_simp <;> with_reducible rfl)); (try simp only [Act.put, List.getElem_toArray, List.getElem_cons_zero, List.getElem_cons_succ, List.setIfInBounds_toArray, List.set_cons_zero, List.set_cons_succ])
          refine takeE_storerow (i := 7) (by kernel_rfl) rfl rfl 84 (.tmp 37) (.tmp 36) rfl yb #[.slice z1 n1 e1, .slice z2 n2 e2, .int .i64 m, .pointer q3, .pointer q4] (by kernel_rfl) (by kernel_rfl) 84 _ HYL.out.1 Tryd.infoNode rfl (by simp [Value.oneCell']) (.inr rfl) ?_
          refine wpAnyE_done (by kernel_rfl) ?_ _
          simp only [only_normal]
          have sp1 : Spares (fun i => i = yb) W (W.drew.setRow yb #[.slice z1 n1 e1, .slice z2 n2 e2, .int .i64 m, .pointer q3, .pointer q4]) := ⟨rfl, rfl, rfl, by show W.heap.size ≤ (W.heap.modify _ _).size; simp, fun k _ hk => setRow_other W.drew yb k _ hk⟩
          have hr1 : (W.drew.setRow yb #[.slice z1 n1 e1, .slice z2 n2 e2, .int .i64 m, .pointer q3, .pointer q4]).heap[yb]? = _ := setRow_heap W.drew yb _ _ _ _ HYL.out.1
          generalize W.drew.setRow yb #[.slice z1 n1 e1, .slice z2 n2 e2, .int .i64 m, .pointer q3, .pointer q4] = W1 at *
          have htny : tb ≠ yb := fun e => by
            have h1 := HHD.out
            rw [e, HYL.out.1] at h1
            cases h1
          have hhd1 := (sp1.block tb (block_lt HHD.out) htny).trans HHD.out
          have t1' : W1.cell? ⟨tb, 1, none⟩ = some (.int .i64 n) := by rw [cell_of_row _ _ _ _ _ _ hhd1]; rfl
          have tf' : ∀ j, W1.frozen? ⟨tb, j, none⟩ = false := fun j => by simp [World.frozen?, hhd1]
          have HSP1 := hid sp1
          have HR1 := hid hr1
          have HHD1 := hid hhd1
          clear sp1 hr1 hhd1 t0 t1 tf hhd q1 q2 hSd y0 y1 y2 y3 y4 yf HOT hS0 q0
          gi_wp2
          have sp : Spares (own tb (some x)) W (W1.setCell ⟨tb, 1, none⟩ (.int .i64 ((n : Int) - 1))) := (HSP1.out.mono (fun i hi => by rw [hi]; exact hyo)).andThen (spares_set W1 ⟨tb, 1, none⟩ _) (fun i hi => .inl (.inl hi))
          obtain ⟨d1, d2, d3⟩ := del_last ht HB.out sp (by omega) hK
          refine ⟨by simp, .inl ⟨_, _, rfl, run_takeDeferred d1, ?_⟩⟩
          refine ⟨_, results_tmp rfl _ _ _, by rw [HLK.out]; rfl, .inr ⟨x, rfl, hnk, del_end ht hnk d2 ?_ (fun y' hy' => ?_)⟩⟩
          · rw [d3 tb htb, show x.tri.ents.length = n from HN.out, Nod.cut_top hab]
            exact heap_setCell_same _ _ _ _ _ _ HHD1.out
          · rw [hab] at hy'
            cases hy'
            have e0 : (Nod.fork yb p yl yr).blk = yb := rfl
            rw [e0, HZ.out.1, HZ.out.2]
            refine ⟨fun b' hb' hne' => ?_, ?_⟩
            · have hlb := (ht.lies x rfl).lt b' hb'
              have hbt : b' ≠ tb := fun e => by
                obtain ⟨cs', hc', _⟩ := (ht.lies x rfl).all b' hb'
                rw [e, ht.head] at hc'
                cases hc'
              rw [d3 b' hlb]
              exact (Below.heap_setCell W1 ⟨tb, 1, none⟩ _ b' hbt).trans ((HSP1.out.block b' (by omega) hne').trans (HB.out.block b' hlb))
            · rw [d3 yb hyb]
              exact (Below.heap_setCell W1 ⟨tb, 1, none⟩ _ yb (fun e => htny e.symm)).trans HR1.out
      · rw [decide_eq_false hkk] at HE
        rw [if_neg hkk] at hlook
        have HLK := hid hlook
        clear hI hS hlook hup hla hl hp
        simp only [inBlock_normal]
        gi_wp2_with (refine ⟨trivial, ?_⟩; gi_at_call 46; refine (callsIn_wide.2 HE).mono ?_; clear HE; rintro e W ⟨rfl, rfl⟩)
        refine ⟨by simp, .inl ⟨_, _, rfl, run_takeDeferred hK, ?_⟩⟩
        exact ⟨_, results_tmp rfl _ _ _, by rw [HLK.out]; rfl, .inl ⟨HLK.out, HB.out.trans (belowK_b (w := w) (Nat.le_refl _) _ D _ _ (by omega) hK rfl rfl)⟩⟩
end Go.Proofs.YthkeofinamedfaaDoor
