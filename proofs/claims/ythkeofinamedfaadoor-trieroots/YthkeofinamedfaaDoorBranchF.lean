/- Contract of trie.Tree.branch. -/
import Derived.Test.YthkeofinamedfaaDoorGraft
import Derived.Test.YthkeofinamedfaaDoorLeafF
import Derived.Test.YthkeofinamedfaaDoorRound
namespace Go.Proofs.YthkeofinamedfaaDoor
open Go.RowKit Go.Shelf
set_option linter.unusedVariables false
set_option maxRecDepth 20000
attribute [local go_sem] Oper.semAt_some

/-- Four new blocks. -/
theorem alloc4 (w : World) (o1 o2 o3 o4 : Obj) : ∃ w4, (((w.alloc o1).alloc o2).alloc o3).alloc o4 = w4 ∧ w4.heap[w.heap.size]? = some o1 ∧ w4.heap[w.heap.size + 1]? = some o2 ∧ w4.heap[w.heap.size + 2]? = some o3 ∧ w4.heap[w.heap.size + 3]? = some o4 ∧ Below w.heap.size w w4 ∧ w4.heap.size = w.heap.size + 4 := by
  obtain ⟨h0, h1, h2, hb, hz⟩ := alloc3 w o1 o2 o3
  have hn := World.alloc_heap_new (((w.alloc o1).alloc o2).alloc o3) o4
  have hb' := (Below.refl (((w.alloc o1).alloc o2).alloc o3).heap.size (((w.alloc o1).alloc o2).alloc o3)).alloc (Nat.le_refl _) o4
  rw [hz] at hn
  exact ⟨_, rfl, (hb'.block _ (by omega)).trans h0, (hb'.block _ (by omega)).trans h1, (hb'.block _ (by omega)).trans h2, hn, hb.trans (hb'.mono (by omega)), by rw [World.size_alloc, hz]⟩

/-- The blocks of a tree of nodes stand a change of others. -/
theorem spares_own {S : Nat → Prop} {w : World} {B : Nat} (hB : w.heap.size ≤ B) {β : Type} : OwnFrom B (fun (_ : β) (W : World) => Spares S w W) := fun _ W W' row hs hg hr =>
  hs.andThen (T := fun i => row = some i) (Spares.of_grown hg (fun k e => e)) (fun i hi => .inr (by have := (hr i hi).1; omega))

theorem cells_own {B g : Nat} {cs : Array Value} {t : TypeId} {β : Type} : OwnFrom B (fun (_ : β) (W : World) => W.heap[g]? = some (.cells cs t (0, 0))) := fun _ W W' row hs hg hr => by
  show W'.heap[g]? = _
  rw [hg.block g (Array.getElem?_eq_some_iff.1 hs).1 (fun e => ?_)]
  · exact hs
  · obtain ⟨_, o, ho, hc⟩ := hr g e.symm
    rw [hs] at ho
    cases ho
    cases hc

theorem Tryd.infoNodep : (Tryd.prog.info? 67).map (·.size) = some 1 := by kernel_rfl

theorem set5 {W : World} {b : Nat} {u0 u1 u2 u3 u4 : Value} {t : TypeId} (h : W.heap[b]? = some (.cells #[u0, u1, u2, u3, u4] t (0, 0))) (v0 v1 v2 v3 v4 : Value) :
    (((((W.setCell ⟨b, 0, none⟩ v0).setCell ⟨b, 1, none⟩ v1).setCell ⟨b, 2, none⟩ v2).setCell ⟨b, 3, none⟩ v3).setCell ⟨b, 4, none⟩ v4).heap[b]? = some (.cells #[v0, v1, v2, v3, v4] t (0, 0)) :=
  heap_setCell_same _ _ _ _ _ _ (heap_setCell_same _ _ _ _ _ _ (heap_setCell_same _ _ _ _ _ _ (heap_setCell_same _ _ _ _ _ _ (heap_setCell_same _ _ _ _ _ _ h))))

/-- A node rewritten, its old cells in a new block. -/
theorem branch_world (W : World) (b : Nat) (cs old : Array Value) (v0 v1 v2 v3 v4 : Value) (t : TypeId) (hs : cs.size = 5) (h : W.heap[b]? = some (.cells cs t (0, 0))) :
    ∃ W2, (((((W.setCell ⟨b, 0, none⟩ v0).setCell ⟨b, 1, none⟩ v1).setCell ⟨b, 2, none⟩ v2).setCell ⟨b, 3, none⟩ v3).setCell ⟨b, 4, none⟩ v4).alloc (.cells old t) = W2 ∧
      W2.heap[b]? = some (.cells #[v0, v1, v2, v3, v4] t (0, 0)) ∧ W2.heap[W.heap.size]? = some (.cells old t (0, 0)) ∧ Spares (fun i => i = b) W W2 := by
  obtain ⟨u0, u1, u2, u3, u4, rfl⟩ : ∃ u0 u1 u2 u3 u4, cs = #[u0, u1, u2, u3, u4] := by
    match cs, hs with
    | ⟨[u0, u1, u2, u3, u4]⟩, _ => exact ⟨u0, u1, u2, u3, u4, rfl⟩
  have h5 := set5 h v0 v1 v2 v3 v4
  have sp : Spares (fun i => i = b) W (((((W.setCell ⟨b, 0, none⟩ v0).setCell ⟨b, 1, none⟩ v1).setCell ⟨b, 2, none⟩ v2).setCell ⟨b, 3, none⟩ v3).setCell ⟨b, 4, none⟩ v4) :=
    ((((spares_set W ⟨b, 0, none⟩ v0).andThen (spares_set _ ⟨b, 1, none⟩ v1) (fun i hi => .inl hi)).andThen (spares_set _ ⟨b, 2, none⟩ v2) (fun i hi => .inl hi)).andThen (spares_set _ ⟨b, 3, none⟩ v3) (fun i hi => .inl hi)).andThen (spares_set _ ⟨b, 4, none⟩ v4) (fun i hi => .inl hi)
  have hz : (((((W.setCell ⟨b, 0, none⟩ v0).setCell ⟨b, 1, none⟩ v1).setCell ⟨b, 2, none⟩ v2).setCell ⟨b, 3, none⟩ v3).setCell ⟨b, 4, none⟩ v4).heap.size = W.heap.size := by simp [World.setCell]
  have hl := (Array.getElem?_eq_some_iff.1 h5).1
  refine ⟨_, rfl, (Below.heap_alloc _ _ _ hl).trans h5, ?_, sp.andThen (T := fun _ => False) (Spares.of_new ((Below.refl _ _).alloc (Nat.le_refl _) _)) (fun i hi => hi.elim)⟩
  have := World.alloc_heap_new (((((W.setCell ⟨b, 0, none⟩ v0).setCell ⟨b, 1, none⟩ v1).setCell ⟨b, 2, none⟩ v2).setCell ⟨b, 3, none⟩ v3).setCell ⟨b, 4, none⟩ v4) (.cells old t)
  rwa [hz] at this

theorem swap_world (W : World) (b : Nat) (u0 u1 u2 u3 u4 v3 v4 : Value) (t : TypeId) (h : W.heap[b]? = some (.cells #[u0, u1, u2, u3, u4] t (0, 0))) :
    ((W.drew.setCell ⟨b, 3, none⟩ v3).setCell ⟨b, 4, none⟩ v4).heap[b]? = some (.cells #[u0, u1, u2, v3, v4] t (0, 0)) ∧ Spares (fun i => i = b) W ((W.drew.setCell ⟨b, 3, none⟩ v3).setCell ⟨b, 4, none⟩ v4) :=
  ⟨heap_setCell_same _ _ _ _ _ _ (heap_setCell_same W.drew _ _ _ _ _ h), (Spares.andThen (b := W.drew) (T := fun i => i = b) ⟨rfl, rfl, rfl, Nat.le_refl _, fun _ _ _ => rfl⟩ (spares_set2 W.drew b 3 4 v3 v4) (fun i hi => .inl hi))⟩

theorem swap_end {Q : World → Prop} {W W5 : World} {b : Nat} {o : Option Obj} (h : W5.heap[b]? = o ∧ Spares (fun i => i = b) W W5) (k : ∀ W5, W5.heap[b]? = o → Spares (fun i => i = b) W W5 → Q W5) : Q W5 := k W5 h.1 h.2

/-- What is left where the loop is left. -/
def Grafted (w : World) (x : Nod) (key : List UInt8) (place ba : Nat) (kv vv : Value) (v : List UInt8) (z : Nod) (W : World) : Prop :=
  ∃ nb, w.heap.size ≤ nb ∧ W.heap[z.blk]? = some (.cells (Nod.mk z.blk (z.move nb) (.leaf ba kv vv key v) key place).cells 84 (0, 0)) ∧ W.heap[nb]? = some (.cells z.cells 84 (0, 0)) ∧ Spares (fun b => b = z.blk) w W

theorem grafted_own {w : World} {B : Nat} (hB : w.heap.size ≤ B) {x : Nod} {key : List UInt8} {place ba : Nat} {kv vv : Value} {v : List UInt8} {z : Nod} {β : Type} : OwnFrom B (fun (_ : β) (W : World) => Grafted w x key place ba kv vv v z W) := fun s W W' row hs hg hr => by
  obtain ⟨nb, h1, h2, h3, h4⟩ := hs
  exact ⟨nb, h1, cells_own s W W' row h2 hg hr, cells_own s W W' row h3 hg hr, spares_own hB s W W' row h4 hg hr⟩

/-- How the loop is left. -/
def Leaves (w : World) (x : Nod) (key : List UInt8) (place ba : Nat) (kv vv : Value) (v : List UInt8) (cd : Code) (pre : List (Step (some x) key)) (W : World) : Prop :=
  (cd = .exit 0 ∧ ∃ ys z, pre = ys ++ [z] ∧ (∀ y ∈ ys, y.1.passes place = true) ∧ z.1.passes place = false) ∧ ∃ z, pre.getLast? = some z ∧ Grafted w x key place ba kv vv v z.1 W

set_option linter.unusedSimpArgs false
set_option maxHeartbeats 4000000 in
theorem branch_any (tb ba place : Nat) (x : Nod) (kv vv : Value) (key v : List UInt8) (w : World) (ht : TreeAt w tb (some x)) (ha : (Nod.leaf ba kv vv key v).Lies w) (hna : ba ∉ x.blks) (hp : place < 1080) :
    Calls Tryd.prog 48 #[.pointer (some ⟨tb, 0, none⟩), .pointer (some ⟨ba, 0, none⟩), .int .i64 place] w fun e w' => (∃ u, e = .returned u) ∧ ∃ nb, w.heap.size ≤ nb ∧ (x.graft key place nb (.leaf ba kv vv key v)).Lies w' ∧ Spares (fun b => b = (x.spot key place).blk) w w' := by
  obtain ⟨hab, hak, hav⟩ := id ha
  obtain ⟨a, c, rfl, g1, g2, gn, g3⟩ := id hak
  clear g3 gn
  have hal : ba < w.heap.size := (Array.getElem?_eq_some_iff.1 hab).1
  have h0 : w.cell? ⟨ba, 0, none⟩ = some (.slice a key.length c) := by rw [cell_of_row _ _ _ _ _ _ hab]; rfl
  refine (callsIn_wide (n := 3)).1 ?_
  refine callsIn_of_wp_marks Tryd.func48 rfl trivial ?_ rfl
  simp only [Tryd.ntmps48, List.size_toArray, List.length_cons, List.length_nil, Nat.reduceAdd, Nat.reduceSub, Array.replicate_succ, Array.replicate_zero, List.push_toArray, List.append_toArray, List.nil_append, List.cons_append]
  gi_wp2_with (refine ⟨trivial, ?_⟩; gi_at_call 50; refine (callsIn_wide.2 (down_any _ _ _ _ _)).mono ?_; rintro e w' ⟨rfl, rfl⟩)
  obtain ⟨w4, hw4, c0, c1, c2, c3, hB0, hsz⟩ := alloc4 w (.cells #[.pointer (some ⟨ba, 0, none⟩)] 67) (.cells #[.int .i64 place] 3) (.cells #[.pointer (some ⟨tb, 0, none⟩)] 24) (.cells #[.slice a key.length c] 28)
  rw [hw4]
  clear hw4
  have ht4 := ht.new hB0
  have hs4 : Shows w.heap.size w4 (.slice a key.length c) key := hak.below hB0
  refine wpIn_rangeFunc_ownG rfl (by omega) (gf := 71) (lb := #[.pointer (some ⟨w.heap.size + 1 + 1, 0, none⟩), .pointer (some ⟨w.heap.size + 1 + 1 + 1, 0, none⟩)]) rfl trivial (enters_of Tryd.func71 (by kernel_rfl) rfl)
    (down_stops _ (w.heap.size + 1 + 1) (w.heap.size + 1 + 1 + 1) w.heap.size tb a key.length c key (some x) w4 (by rw [cell_of_row _ _ _ _ _ _ c2]; rfl) c3 hs4 ht4 ht.lt (by omega)) kpB_t (kpB_b (by omega) (by omega)) (Below.refl _ _) (fun _ => rfl)
    (fun pre W => (∀ y ∈ pre, y.1.passes place = true) ∧ Below w4.heap.size w4 W)
    (fun cd pre W => Leaves w x key place ba (.slice a key.length c) vv v cd pre W)
    (OwnFrom.and (ownFrom_pure _ _) (ownFrom_below (Nat.le_refl _) (Nat.le_refl _)))
    (fun cd s W W' row hs hg hr => by
      obtain ⟨h1, z, hz, hg'⟩ := hs
      exact ⟨h1, z, hz, grafted_own (by omega) s W W' row hg' hg hr⟩)
    ⟨fun y hy => (by cases hy), Below.refl _ _⟩
    (fun y => { tmps := #[.pointer (some ⟨tb, 0, none⟩), .pointer (some ⟨ba, 0, none⟩), .int .i64 place, undef, .pointer (some ⟨w.heap.size, 0, none⟩), .pointer (some ⟨w.heap.size + 1, 0, none⟩), y.1.at', undef, .pointer (some ⟨tb, 0, none⟩), .pointer (some ⟨ba, 0, none⟩), .pointer (some ⟨ba, 0, none⟩), .pointer (some ⟨ba, 0, none⟩), .pointer (some ⟨ba, 0, none⟩), .slice a key.length c, .func (.func 71) #[] #[.pointer (some ⟨w.heap.size + 1 + 1, 0, none⟩), .pointer (some ⟨w.heap.size + 1 + 1 + 1, 0, none⟩)], y.1.at', undef, undef, undef, undef, undef, undef, undef, undef, undef, undef, undef, undef, undef, undef, undef, undef, undef, undef, undef, undef, undef, undef, undef, undef, undef, undef, undef, undef, undef, undef, undef, undef, undef, undef, undef, undef, undef, undef, undef, undef], defers := [] }) ?assign ?body ?done ?stop
  case assign =>
    intro l x W K hK
    gi_wp2
    exact hK
  case done =>
    rintro D ys W hD hS ⟨hpass, hB⟩ hK
    exfalso
    have hm := Nod.end_mem x key
    rw [show x.way key = ys.map (·.1) from hS.symm] at hm
    obtain ⟨y, hy, e⟩ := List.mem_map.1 hm
    have := hpass y hy
    obtain ⟨b', kv', vv', k', v', he, _⟩ := Nod.end_leaf x key
    rw [e, he] at this
    cases this
  case stop =>
    rintro D cd pre W hD hpre ⟨⟨rfl, ys, z, rfl, hy, hz⟩, z', hz', hG⟩ hK
    have hzz : z = z' := by simpa using hz'
    subst hzz
    have hsp : z.1 = x.spot key place := Nod.spot_of x key place (ys.map (·.1)) z.1 (by simpa [wayO] using hpre) (fun y hy' => by obtain ⟨q, hq, e⟩ := List.mem_map.1 hy'; rw [← e]; exact hy q hq) hz
    rw [hsp] at hG
    have hG2 : Grafted w x key place ba (.slice a key.length c) vv v (x.spot key place) (W.putObj D (.deferred none)) :=
      grafted_own (B := w4.heap.size) (by omega) () W _ (some D) hG (grownBy_putObj' W D (.deferred none)) (fun r e => by cases e; exact ⟨hD, _, hK, rfl⟩)
    have HF : Hid (∃ nb, w.heap.size ≤ nb ∧ (x.graft key place nb (.leaf ba (.slice a key.length c) vv key v)).Lies (W.putObj D (.deferred none)) ∧ Spares (fun b => b = (x.spot key place).blk) w (W.putObj D (.deferred none))) := hid (by
      obtain ⟨nb, h1, h2, h3, h4⟩ := hG2
      have hby : Bytes w (W.putObj D (.deferred none)) := ht.bytes (h4.mono fun i hi => .inr ⟨x, rfl, by rw [hi]; exact Nod.spot_mem x key place⟩)
      have hsb : (x.spot key place).blk ≠ ba := fun e => hna (by rw [← e]; exact Nod.spot_mem x key place)
      exact ⟨nb, h1, Nod.graft_lies (ht.lies x rfl) (ht.nodup x rfl) (ha.keeps hby fun i hi => h4.block i (by simp [Nod.blks] at hi; omega) (by simp [Nod.blks] at hi; subst hi; exact fun e => hsb e.symm)) hby (fun i hi hne => h4.block i ((ht.lies x rfl).lt i hi) hne) h2 h3, h4⟩)
    clear hG hG2
    gi_wp2
    refine ⟨by simp, .inl ⟨_, _, rfl, run_takeDeferred hK, ?_⟩⟩
    exact ⟨_, results_none rfl _ _ _, ⟨_, rfl⟩, HF.out⟩
  case body =>
    rintro l pre ⟨y, hy⟩ W ⟨hpass, hB⟩ _
    have hyl := (Nod.way_lies ((ht4.lies x rfl)) y hy).new hB
    have hyw := Nod.ok_way (show x.tri.WF from ht.wf) y hy
    have hyb : y.blk < w.heap.size := ht.lt _ (.inr ⟨x, rfl, Nod.way_blks y hy _ y.blk_mem⟩)
    have hp0 : W.cell? ⟨w.heap.size, 0, none⟩ = some (.pointer (some ⟨ba, 0, none⟩)) := by rw [hB.cell (p := ⟨w.heap.size, 0, none⟩) (by show w.heap.size < _; omega), cell_of_row _ _ _ _ _ _ c0]; rfl
    have hp1 : W.cell? ⟨w.heap.size + 1, 0, none⟩ = some (.int .i64 place) := by rw [hB.cell (p := ⟨w.heap.size + 1, 0, none⟩) (by show w.heap.size + 1 < _; omega), cell_of_row _ _ _ _ _ _ c1]; rfl
    cases y with
    | leaf b lk lv k' v' =>
      obtain ⟨ak, ck, rfl, _⟩ := id hyl.2.1
      obtain ⟨av, cv, rfl, _⟩ := id hyl.2.2
      have hl := fun m => isLeaf_any b none (W.drewN m) (by show W.cell? _ = _; rw [cell_of_row _ _ _ _ _ _ hyl.1]; rfl)
      simp only [Nod.at']
      rw [show (Nod.leaf b (.slice ak k'.length ck) (.slice av v'.length cv) k' v').blk = b from rfl]
      simp only [Option.isNone_none] at hl
      gi_wp2
      refine quiet_in_round (by kernel_rfl) (by kernel_rfl) (by kernel_rfl) (by rintro ⟨_, _, h⟩; exact h) ?_
      repeat (go_big_quiet_step ((go_at_call 52; exact Calls.quiet_of_same (hl _))))
      refine wpQuiet_nil ?_
      intro _ hw'
      obtain ⟨nq, hw''⟩ := hw'
      subst hw''
      have hB1 : Below w4.heap.size w4 (W.drewN nq) := hB.trans (below_drewN _ _ _)
      have hy1 : (Nod.leaf b (.slice ak k'.length ck) (.slice av v'.length cv) k' v').Lies (W.drewN nq) := hyl.new (below_drewN _ _ _)
      have HKF : Hid (KeepsFrom w4.heap.size W (W.drewN nq)) := hid ⟨Nat.le_refl _, fun _ _ _ h _ => h⟩
      have hp0' : (W.drewN nq).cell? ⟨w.heap.size, 0, none⟩ = some (.pointer (some ⟨ba, 0, none⟩)) := hp0
      have hp1' : (W.drewN nq).cell? ⟨w.heap.size + 1, 0, none⟩ = some (.int .i64 place) := hp1
      clear hl hp0 hp1 hyl hB
      generalize W.drewN nq = W1 at *
      have q0 : W1.cell? ⟨b, 0, none⟩ = some (.slice ak k'.length ck) := by rw [cell_of_row _ _ _ _ _ _ hy1.1]; rfl
      have q1 : W1.cell? ⟨b, 1, none⟩ = some (.slice av v'.length cv) := by rw [cell_of_row _ _ _ _ _ _ hy1.1]; rfl
      have q2 : W1.cell? ⟨b, 2, none⟩ = some (.int .i64 0) := by rw [cell_of_row _ _ _ _ _ _ hy1.1]; rfl
      have q3 : W1.cell? ⟨b, 3, none⟩ = some (.pointer none) := by rw [cell_of_row _ _ _ _ _ _ hy1.1]; rfl
      have q4 : W1.cell? ⟨b, 4, none⟩ = some (.pointer none) := by rw [cell_of_row _ _ _ _ _ _ hy1.1]; rfl
      have qf : ∀ j, W1.frozen? ⟨b, j, none⟩ = false := fun j => by simp [World.frozen?, hy1.1]
      have HY1 := hid hy1
      have HB1 := hid hB1
      have l0 : w.heap.size < W1.heap.size := by have := hB1.size; omega
      have l1 : w.heap.size + 1 < W1.heap.size := by have := hB1.size; omega
      have lb : b < W1.heap.size := (Array.getElem?_eq_some_iff.1 hy1.1).1
      have la : ba < W1.heap.size := by have := hB1.size; omega
      have nb1 : b ≠ w.heap.size := by have : b < w.heap.size := hyb; omega
      have nb2 : b ≠ w.heap.size + 1 := by have : b < w.heap.size := hyb; omega
      clear hy1 hB1
      gi_wp2
      obtain ⟨W2, hW2, d1, d2, d3⟩ := branch_world W1 b (Nod.leaf b (.slice ak k'.length ck) (.slice av v'.length cv) k' v').cells #[.slice ak k'.length ck, .slice av v'.length cv, .int .i64 0, .pointer none, .pointer none] (.slice none 0 0) (.slice none 0 0) (.int .i64 place) (.pointer (some ⟨W1.heap.size, 0, none⟩)) (.pointer (some ⟨ba, 0, none⟩)) 84 rfl HY1.out.1
      rw [hW2]
      have hZ : (#[.slice ak k'.length ck, .slice av v'.length cv, .int .i64 0, .pointer none, .pointer none] : Array Value) = (Nod.leaf b (.slice ak k'.length ck) (.slice av v'.length cv) k' v').cells := rfl
      rw [hZ] at d2
      have HZP : Hid ((Nod.leaf b (.slice ak k'.length ck) (.slice av v'.length cv) k' v').passes place = false) := hid rfl
      have HZB : Hid ((Nod.leaf b (.slice ak k'.length ck) (.slice av v'.length cv) k' v').blk = b) := hid rfl
      generalize Nod.leaf b (.slice ak k'.length ck) (.slice av v'.length cv) k' v' = z at *
      have HD1 := hid d1
      have HD2 := hid d2
      have HD3 := hid d3
      have e0 := d3.cell hp0' (fun e => nb1 e.symm)
      have e1 := d3.cell hp1' (fun e => nb2 e.symm)
      have ea : W2.cell? ⟨ba, 0, none⟩ = some (.slice a key.length c) := by
        have : W1.cell? ⟨ba, 0, none⟩ = some (.slice a key.length c) := by rw [HB1.out.cell (p := ⟨ba, 0, none⟩) (by show ba < _; omega), hB0.cell (p := ⟨ba, 0, none⟩) hal]; exact h0
        exact d3.cell this (fun e => hna (by rw [show ba = z.blk from e.trans HZB.out.symm]; exact Nod.way_blks z hy _ z.blk_mem))
      have hby : Bytes W1 W2 := ⟨d3.size, fun ad n hc => d3.cell hc (fun e => by
        obtain ⟨cs, h1, h2⟩ := HY1.out.all z.blk z.blk_mem
        rw [HZB.out] at h1
        unfold World.cell? at hc
        rw [e, h1] at hc
        simp only at hc
        split at hc
        · cases hc
        · exact h2 _ _ hc)⟩
      have hbit := fun m => bit_any _ (.slice a key.length c) key place (W2.drewN m) (((((hak.new hB0).new HB1.out).bytes hby).new (below_drewN _ _ _))) (by omega) (by omega)
      simp only [bitI_nat] at hbit
      have HFK : Hid (KeepsFrom w4.heap.size W W2) := hid ⟨Nat.le_trans HKF.out.size d3.size, fun k o hk1 hk2 hk3 => (d3.block k (Array.getElem?_eq_some_iff.1 (HKF.out.same k o hk1 hk2 hk3)).1 (fun e => by
        have hl1 := HY1.out.block
        rw [HZB.out] at hl1
        rw [e] at hk2
        have := HKF.out.same b o (by rw [← e]; exact hk1) hk2 hk3
        rw [hl1] at this
        cases this
        cases hk3)).trans (HKF.out.same k o hk1 hk2 hk3)⟩
      have HSP : Hid (Spares (fun i => i = b) w W2) := hid ((Spares.of_new (S := fun i => i = b) (hB0.trans (HB1.out.mono (by omega)))).andThen d3 (fun i hi => .inl hi))
      have HNB : Hid (w.heap.size ≤ W1.heap.size) := hid (by omega)
      clear hW2 q0 q1 q2 q3 q4 qf d1 d2 d3 hp0' hp1'
      cases hb : bit key place with
      | true =>
        simp only [hb] at hbit
        refine quiet_in_round (by kernel_rfl) (by kernel_rfl) (by kernel_rfl) (by rintro ⟨_, _, h⟩; exact h) ?_
        repeat (go_big_quiet_step ((go_at_call 20; exact Calls.quiet_of_same (hbit _))))
        refine wpQuiet_nil ?_
        intro _ hw'
        obtain ⟨nq2, hw''⟩ := hw'
        subst hw''
        gi_wp2
        refine ⟨HFK.out.trans ⟨Nat.le_refl _, fun _ _ _ h _ => h⟩, ⟨rfl, pre, ⟨z, hy⟩, rfl, hpass, HZP.out⟩, ⟨z, hy⟩, by simp, W1.heap.size, HNB.out, ?_, HD2.out, ?_⟩
        · simp only [HZB.out, Nod.mk, if_pos hb, Nod.cells, Nod.at', Nod.move_blk]
          exact HD1.out
        · simp only [HZB.out]
          exact HSP.out.andThen (T := fun _ => False) ⟨rfl, rfl, rfl, Nat.le_refl _, fun _ _ _ => rfl⟩ (fun i hi => hi.elim)
      | false =>
        simp only [hb] at hbit
        refine quiet_in_round (by kernel_rfl) (by kernel_rfl) (by kernel_rfl) (by rintro ⟨_, _, h⟩; exact h) ?_
        repeat (go_big_quiet_step ((go_at_call 20; exact Calls.quiet_of_same (hbit _))))
        refine wpQuiet_nil ?_
        intro _ hw'
        obtain ⟨nq2, hw''⟩ := hw'
        subst hw''
        have HD1' : Hid ((W2.drewN nq2).heap[b]? = _) := hid HD1.out
        have HD2' : Hid ((W2.drewN nq2).heap[W1.heap.size]? = _) := hid HD2.out
        have HFK' : Hid (KeepsFrom w4.heap.size W (W2.drewN nq2)) := hid (HFK.out.trans ⟨Nat.le_refl _, fun _ _ _ h _ => h⟩)
        have HSP' : Hid (Spares (fun i => i = b) w (W2.drewN nq2)) := hid (HSP.out.andThen (T := fun _ => False) ⟨rfl, rfl, rfl, Nat.le_refl _, fun _ _ _ => rfl⟩ (fun i hi => hi.elim))
        clear HD1 HD2 HFK HSP hbit e0 e1 ea HD3 hby
        generalize W2.drewN nq2 = W3 at *
        have r3 : W3.cell? ⟨b, 3, none⟩ = some (.pointer (some ⟨W1.heap.size, 0, none⟩)) := by rw [cell_of_row _ _ _ _ _ _ HD1'.out]; rfl
        have r4 : W3.cell? ⟨b, 4, none⟩ = some (.pointer (some ⟨ba, 0, none⟩)) := by rw [cell_of_row _ _ _ _ _ _ HD1'.out]; rfl
        have rf : ∀ j, W3.frozen? ⟨b, j, none⟩ = false := fun j => by simp [World.frozen?, HD1'.out]
        have r4' : (W3.drew.setCell ⟨b, 3, none⟩ (.pointer (some ⟨ba, 0, none⟩))).cell? ⟨b, 4, none⟩ = some (.pointer (some ⟨ba, 0, none⟩)) := by rw [cell_of_row _ _ _ _ _ _ (heap_setCell_same W3.drew b 3 _ _ _ HD1'.out)]; rfl
        have rf4' : (W3.drew.setCell ⟨b, 3, none⟩ (.pointer (some ⟨ba, 0, none⟩))).frozen? ⟨b, 4, none⟩ = false := by rw [World.frozen?_setCell]; exact rf 4
        have HNE : Hid (W1.heap.size ≠ b) := hid (by omega)
        have HF0 := hid (swap_world W3 b _ _ _ _ _ (.pointer (some ⟨ba, 0, none⟩)) (.pointer (some ⟨W1.heap.size, 0, none⟩)) _ HD1'.out)
        gi_wp2
        have HPS := hid hpass
        clear hpass hZ hyw hyb c0 c1 c2 c3 h0 hab hsz ht4 hs4 hB0 ht ha hak hav hna l0 l1 lb la nb1 nb2
        refine region_in_round (by kernel_rfl) (by kernel_rfl) (by rintro ⟨_, _, h⟩; exact h) ?_
        refine wpAny_take (i := 0) (v := ?_) rfl (by kernel_rfl) (by kernel_rfl) (by kernel_rfl) (fun _ _ _ h => h) (Or.inl ⟨by rfl, ?_⟩) ?_; rotate_left; (focus (intro w; go_simp <;> with_reducible rfl)); (try simp only [Act.put, List.setIfInBounds_toArray, List.set_cons_zero, List.set_cons_succ])
        refine wpAny_take (i := 1) (v := ?_) rfl (by kernel_rfl) (by kernel_rfl) (by kernel_rfl) (fun _ _ _ h => h) (Or.inl ⟨by rfl, ?_⟩) ?_; rotate_left; (focus (intro w; go_simp <;> with_reducible rfl)); (try simp only [Act.put, List.setIfInBounds_toArray, List.set_cons_zero, List.set_cons_succ])
        refine wpAny_take (i := 2) (v := ?_) rfl (by kernel_rfl) (by kernel_rfl) (by kernel_rfl) (fun _ _ _ h => h) (Or.inl ⟨by rfl, ?_⟩) ?_; rotate_left; (focus (intro w; go_simp <;> with_reducible rfl)); (try simp only [Act.put, List.setIfInBounds_toArray, List.set_cons_zero, List.set_cons_succ])
        refine wpAny_take (i := 3) (v := ?_) rfl (by kernel_rfl) (by kernel_rfl) (by kernel_rfl) (fun _ _ _ h => h) (Or.inl ⟨by rfl, ?_⟩) ?_; rotate_left; (focus (intro w; go_simp <;> with_reducible rfl)); (try simp only [Act.put, List.setIfInBounds_toArray, List.set_cons_zero, List.set_cons_succ])
        refine wpAny_take (i := 4) (v := ?_) rfl (by kernel_rfl) (by kernel_rfl) (by kernel_rfl) (fun _ _ _ h => h) (Or.inl ⟨by rfl, ?_⟩) ?_; rotate_left; (focus (intro w; go_simp <;> with_reducible rfl)); (try simp only [Act.put, List.setIfInBounds_toArray, List.set_cons_zero, List.set_cons_succ])
        refine wpAny_take (i := 6) (v := ?_) rfl (by kernel_rfl) (by kernel_rfl) (by kernel_rfl) (fun _ _ _ h => h) (Or.inl ⟨by rfl, ?_⟩) ?_; rotate_left; (focus (intro w; go_simp <;> with_reducible rfl)); (try simp only [Act.put, List.setIfInBounds_toArray, List.set_cons_zero, List.set_cons_succ])
        refine wpAny_take (i := 7) (v := ?_) rfl (by kernel_rfl) (by kernel_rfl) (by kernel_rfl) (fun _ _ _ h => h) (Or.inl ⟨by rfl, ?_⟩) ?_; rotate_left; (focus (intro w; go_simp <;> with_reducible rfl)); (try simp only [Act.put, List.setIfInBounds_toArray, List.set_cons_zero, List.set_cons_succ])
        refine wpAny_take (i := 8) (v := ?_) rfl (by kernel_rfl) (by kernel_rfl) (by kernel_rfl) (fun _ _ _ h => h) (Or.inl ⟨by rfl, ?_⟩) ?_; rotate_left; (focus (intro w; go_simp <;> with_reducible rfl)); (try simp only [Act.put, List.setIfInBounds_toArray, List.set_cons_zero, List.set_cons_succ])
        refine take_loads (i := 5) (j := 9) (pi := ⟨b, 4, none⟩) (pj := ⟨b, 3, none⟩) _ Tryd.underlying67 (by kernel_rfl) rfl rfl rfl rfl rfl rfl (by kernel_rfl) (by kernel_rfl) r4 r3 ?_ ?_
        · simp only [Act.put, List.setIfInBounds_toArray, List.set_cons_zero, List.set_cons_succ]
          refine take_load (i := 9) (pi := ⟨b, 3, none⟩) _ Tryd.underlying67 (by kernel_rfl) rfl rfl rfl (by kernel_rfl) r3 ?_
          simp only [Act.put, List.setIfInBounds_toArray, List.set_cons_zero, List.set_cons_succ]
          refine wpAny_take (i := 10) (v := ?_) rfl (by kernel_rfl) (by kernel_rfl) (by kernel_rfl) (fun _ _ _ h => h) (Or.inl ⟨by rfl, ?_⟩) ?_; rotate_left; (focus (intro w; go_simp <;> with_reducible rfl)); (try simp only [Act.put, List.setIfInBounds_toArray, List.set_cons_zero, List.set_cons_succ])
          refine wpAny_take (i := 11) (v := ?_) rfl (by kernel_rfl) (by kernel_rfl) (by kernel_rfl) (fun _ _ _ h => h) (Or.inl ⟨by rfl, ?_⟩) ?_; rotate_left; (focus (intro w; go_simp <;> with_reducible rfl)); (try simp only [Act.put, List.setIfInBounds_toArray, List.set_cons_zero, List.set_cons_succ])
          refine take_store (i := 12) (pi := ⟨b, 3, none⟩) (p := some ⟨ba, 0, none⟩) Tryd.infoNodep (by kernel_rfl) rfl rfl rfl rfl (by kernel_rfl) (by kernel_rfl) r3 (rf 3) ?_
          refine wpAny_take (i := 13) (v := ?_) rfl (by kernel_rfl) (by kernel_rfl) (by kernel_rfl) (fun _ _ _ h => h) (Or.inl ⟨by rfl, ?_⟩) ?_; rotate_left; (focus (intro w; go_simp <;> with_reducible rfl)); (try simp only [Act.put, List.setIfInBounds_toArray, List.set_cons_zero, List.set_cons_succ])
          refine wpAny_take (i := 14) (v := ?_) rfl (by kernel_rfl) (by kernel_rfl) (by kernel_rfl) (fun _ _ _ h => h) (Or.inl ⟨by rfl, ?_⟩) ?_; rotate_left; (focus (intro w; go_simp <;> with_reducible rfl)); (try simp only [Act.put, List.setIfInBounds_toArray, List.set_cons_zero, List.set_cons_succ])
          refine take_store (i := 15) (pi := ⟨b, 4, none⟩) (p := some ⟨W1.heap.size, 0, none⟩) Tryd.infoNodep (by kernel_rfl) rfl rfl rfl rfl (by kernel_rfl) (by kernel_rfl) r4' rf4' ?_
          refine wpAny_done (by kernel_rfl) ?_ _
          refine swap_end (Q := Exit.then _ _ Exit.normal _) HF0.out ?_
          intro W5 hf1 hf2
          have HF1 := hid hf1
          have HF2 := hid hf2
          clear hf1 hf2 r3 r4 rf r4' rf4' HF0
          gi_wp2
          refine ⟨HFK'.out.trans ⟨HF2.out.size, fun k o hk1 hk2 hk3 => (HF2.out.block k (Array.getElem?_eq_some_iff.1 hk2).1 (fun e => by rw [e, HD1'.out] at hk2; cases hk2; cases hk3)).trans hk2⟩, ⟨rfl, pre, ⟨z, hy⟩, rfl, HPS.out, HZP.out⟩, ⟨z, hy⟩, by simp, W1.heap.size, HNB.out, ?_, ?_, ?_⟩
          · simp only [HZB.out, Nod.mk, hb, Bool.false_eq_true, if_false, Nod.cells, Nod.at', Nod.move_blk]
            exact HF1.out
          · exact (HF2.out.block _ (Array.getElem?_eq_some_iff.1 HD2'.out).1 HNE.out).trans HD2'.out
          · simp only [HZB.out]
            exact HSP'.out.andThen HF2.out (fun i hi => .inl hi)
        · simp only [Act.put, List.setIfInBounds_toArray, List.set_cons_zero, List.set_cons_succ]
          refine take_load (i := 5) (pi := ⟨b, 4, none⟩) _ Tryd.underlying67 (by kernel_rfl) rfl rfl rfl (by kernel_rfl) r4 ?_
          simp only [Act.put, List.setIfInBounds_toArray, List.set_cons_zero, List.set_cons_succ]
          refine wpAny_take (i := 10) (v := ?_) rfl (by kernel_rfl) (by kernel_rfl) (by kernel_rfl) (fun _ _ _ h => h) (Or.inl ⟨by rfl, ?_⟩) ?_; rotate_left; (focus (intro w; go_simp <;> with_reducible rfl)); (try simp only [Act.put, List.setIfInBounds_toArray, List.set_cons_zero, List.set_cons_succ])
          refine wpAny_take (i := 11) (v := ?_) rfl (by kernel_rfl) (by kernel_rfl) (by kernel_rfl) (fun _ _ _ h => h) (Or.inl ⟨by rfl, ?_⟩) ?_; rotate_left; (focus (intro w; go_simp <;> with_reducible rfl)); (try simp only [Act.put, List.setIfInBounds_toArray, List.set_cons_zero, List.set_cons_succ])
          refine take_store (i := 12) (pi := ⟨b, 3, none⟩) (p := some ⟨ba, 0, none⟩) Tryd.infoNodep (by kernel_rfl) rfl rfl rfl rfl (by kernel_rfl) (by kernel_rfl) r3 (rf 3) ?_
          refine wpAny_take (i := 13) (v := ?_) rfl (by kernel_rfl) (by kernel_rfl) (by kernel_rfl) (fun _ _ _ h => h) (Or.inl ⟨by rfl, ?_⟩) ?_; rotate_left; (focus (intro w; go_simp <;> with_reducible rfl)); (try simp only [Act.put, List.setIfInBounds_toArray, List.set_cons_zero, List.set_cons_succ])
          refine wpAny_take (i := 14) (v := ?_) rfl (by kernel_rfl) (by kernel_rfl) (by kernel_rfl) (fun _ _ _ h => h) (Or.inl ⟨by rfl, ?_⟩) ?_; rotate_left; (focus (intro w; go_simp <;> with_reducible rfl)); (try simp only [Act.put, List.setIfInBounds_toArray, List.set_cons_zero, List.set_cons_succ])
          refine take_store (i := 15) (pi := ⟨b, 4, none⟩) (p := some ⟨W1.heap.size, 0, none⟩) Tryd.infoNodep (by kernel_rfl) rfl rfl rfl rfl (by kernel_rfl) (by kernel_rfl) r4' rf4' ?_
          refine wpAny_done (by kernel_rfl) ?_ _
          refine swap_end (Q := Exit.then _ _ Exit.normal _) HF0.out ?_
          intro W5 hf1 hf2
          have HF1 := hid hf1
          have HF2 := hid hf2
          clear hf1 hf2 r3 r4 rf r4' rf4' HF0
          gi_wp2
          refine ⟨HFK'.out.trans ⟨HF2.out.size, fun k o hk1 hk2 hk3 => (HF2.out.block k (Array.getElem?_eq_some_iff.1 hk2).1 (fun e => by rw [e, HD1'.out] at hk2; cases hk2; cases hk3)).trans hk2⟩, ⟨rfl, pre, ⟨z, hy⟩, rfl, HPS.out, HZP.out⟩, ⟨z, hy⟩, by simp, W1.heap.size, HNB.out, ?_, ?_, ?_⟩
          · simp only [HZB.out, Nod.mk, hb, Bool.false_eq_true, if_false, Nod.cells, Nod.at', Nod.move_blk]
            exact HF1.out
          · exact (HF2.out.block _ (Array.getElem?_eq_some_iff.1 HD2'.out).1 HNE.out).trans HD2'.out
          · simp only [HZB.out]
            exact HSP'.out.andThen HF2.out (fun i hi => .inl hi)
    | fork b p yl yr =>
      by_cases hpp : p ≤ place
      · have h2 : W.cell? ⟨b, 2, none⟩ = some (.int .i64 p) := by rw [cell_of_row _ _ _ _ _ _ hyl.1]; rfl
        have h3 : W.cell? ⟨b, 3, none⟩ = some yl.at' := by rw [cell_of_row _ _ _ _ _ _ hyl.1]; rfl
        have hl := fun m => isLeaf_any b (some ⟨yl.blk, 0, none⟩) (W.drewN m) h3
        have hpi : (p : Int) ≤ (place : Int) := by omega
        have hpb := Tri.place_bound p _ _ hyw
        simp only [Nod.at']
        rw [show (Nod.fork b p yl yr).blk = b from rfl]
        have h3' : W.cell? ⟨b, 3, none⟩ = some (.pointer (some ⟨yl.blk, 0, none⟩)) := h3
        clear h3
        simp only [Option.isNone_some] at hl
        generalize yl.blk = bl at *
        gi_wp2
        refine quiet_in_round (by kernel_rfl) (by kernel_rfl) (by kernel_rfl) (by rintro ⟨_, _, h⟩; exact h) ?_
        repeat (go_big_quiet_step ((go_at_call 52; exact Calls.quiet_of_same (hl _))))
        refine wpQuiet_nil ?_
        intro _ hw'
        obtain ⟨nq, hw''⟩ := hw'
        subst hw''
        gi_wp2
        refine ⟨⟨Nat.le_refl _, fun _ _ _ h _ => h⟩, ⟨below_drewN _ _ _, rfl⟩, fun q hq => ?_, hB.trans (below_drewN _ _ _)⟩
        rcases List.mem_append.1 hq with hq | hq
        · exact hpass q hq
        · simp at hq; subst hq; simp [Nod.passes, hpp]
      · have hpb := Tri.place_bound p _ _ hyw
        have hpi : (place : Int) < (p : Int) := by omega
        have hl := fun m => isLeaf_any b (some ⟨yl.blk, 0, none⟩) (W.drewN m) (by show W.cell? _ = _; rw [cell_of_row _ _ _ _ _ _ hyl.1]; rfl)
        have q2 : W.cell? ⟨b, 2, none⟩ = some (.int .i64 p) := by rw [cell_of_row _ _ _ _ _ _ hyl.1]; rfl
        simp only [Nod.at']
        rw [show (Nod.fork b p yl yr).blk = b from rfl]
        simp only [Option.isNone_some] at hl
        gi_wp2
        refine quiet_in_round (by kernel_rfl) (by kernel_rfl) (by kernel_rfl) (by rintro ⟨_, _, h⟩; exact h) ?_
        repeat (go_big_quiet_step ((go_at_call 52; exact Calls.quiet_of_same (hl _))))
        refine wpQuiet_nil ?_
        intro _ hw'
        obtain ⟨nq, hw''⟩ := hw'
        subst hw''
        have hB1 : Below w4.heap.size w4 (W.drewN nq) := hB.trans (below_drewN _ _ _)
        have hy1 : (Nod.fork b p yl yr).Lies (W.drewN nq) := hyl.new (below_drewN _ _ _)
        have HKF : Hid (KeepsFrom w4.heap.size W (W.drewN nq)) := hid ⟨Nat.le_refl _, fun _ _ _ h _ => h⟩
        have hp0' : (W.drewN nq).cell? ⟨w.heap.size, 0, none⟩ = some (.pointer (some ⟨ba, 0, none⟩)) := hp0
        have hp1' : (W.drewN nq).cell? ⟨w.heap.size + 1, 0, none⟩ = some (.int .i64 place) := hp1
        clear hl q2 hp0 hp1 hyl hB
        generalize W.drewN nq = W1 at *
        have q0 : W1.cell? ⟨b, 0, none⟩ = some (.slice none 0 0) := by rw [cell_of_row _ _ _ _ _ _ hy1.1]; rfl
        have q1 : W1.cell? ⟨b, 1, none⟩ = some (.slice none 0 0) := by rw [cell_of_row _ _ _ _ _ _ hy1.1]; rfl
        have q2 : W1.cell? ⟨b, 2, none⟩ = some (.int .i64 p) := by rw [cell_of_row _ _ _ _ _ _ hy1.1]; rfl
        have q3 : W1.cell? ⟨b, 3, none⟩ = some (.pointer (some ⟨yl.blk, 0, none⟩)) := by rw [cell_of_row _ _ _ _ _ _ hy1.1]; rfl
        have q4 : W1.cell? ⟨b, 4, none⟩ = some (.pointer (some ⟨yr.blk, 0, none⟩)) := by rw [cell_of_row _ _ _ _ _ _ hy1.1]; rfl
        have qf : ∀ j, W1.frozen? ⟨b, j, none⟩ = false := fun j => by simp [World.frozen?, hy1.1]
        obtain ⟨bl, hbl⟩ : ∃ bl, yl.blk = bl := ⟨_, rfl⟩
        obtain ⟨br, hbr⟩ : ∃ br, yr.blk = br := ⟨_, rfl⟩
        rw [hbl] at q3
        rw [hbr] at q4
        have HBL := hid hbl
        have HBR := hid hbr
        clear hbl hbr
        have HY1 := hid hy1
        have HB1 := hid hB1
        have l0 : w.heap.size < W1.heap.size := by have := hB1.size; omega
        have l1 : w.heap.size + 1 < W1.heap.size := by have := hB1.size; omega
        have lb : b < W1.heap.size := (Array.getElem?_eq_some_iff.1 hy1.1).1
        have la : ba < W1.heap.size := by have := hB1.size; omega
        have nb1 : b ≠ w.heap.size := by have : b < w.heap.size := hyb; omega
        have nb2 : b ≠ w.heap.size + 1 := by have : b < w.heap.size := hyb; omega
        clear hy1 hB1
        gi_wp2
        obtain ⟨W2, hW2, d1, d2, d3⟩ := branch_world W1 b (Nod.fork b p yl yr).cells #[.slice none 0 0, .slice none 0 0, .int .i64 p, .pointer (some ⟨bl, 0, none⟩), .pointer (some ⟨br, 0, none⟩)] (.slice none 0 0) (.slice none 0 0) (.int .i64 place) (.pointer (some ⟨W1.heap.size, 0, none⟩)) (.pointer (some ⟨ba, 0, none⟩)) 84 rfl HY1.out.1
        rw [hW2]
        have hZ : (#[.slice none 0 0, .slice none 0 0, .int .i64 p, .pointer (some ⟨bl, 0, none⟩), .pointer (some ⟨br, 0, none⟩)] : Array Value) = (Nod.fork b p yl yr).cells := by simp only [Nod.cells, Nod.at', HBL.out, HBR.out]
        rw [hZ] at d2
        have HZP : Hid ((Nod.fork b p yl yr).passes place = false) := hid (by simp [Nod.passes]; omega)
        have HZB : Hid ((Nod.fork b p yl yr).blk = b) := hid rfl
        generalize Nod.fork b p yl yr = z at *
        have HD1 := hid d1
        have HD2 := hid d2
        have HD3 := hid d3
        have e0 := d3.cell hp0' (fun e => nb1 e.symm)
        have e1 := d3.cell hp1' (fun e => nb2 e.symm)
        have ea : W2.cell? ⟨ba, 0, none⟩ = some (.slice a key.length c) := by
          have : W1.cell? ⟨ba, 0, none⟩ = some (.slice a key.length c) := by rw [HB1.out.cell (p := ⟨ba, 0, none⟩) (by show ba < _; omega), hB0.cell (p := ⟨ba, 0, none⟩) hal]; exact h0
          exact d3.cell this (fun e => hna (by rw [show ba = z.blk from e.trans HZB.out.symm]; exact Nod.way_blks z hy _ z.blk_mem))
        have hby : Bytes W1 W2 := ⟨d3.size, fun ad n hc => d3.cell hc (fun e => by
          obtain ⟨cs, h1, h2⟩ := HY1.out.all z.blk z.blk_mem
          rw [HZB.out] at h1
          unfold World.cell? at hc
          rw [e, h1] at hc
          simp only at hc
          split at hc
          · cases hc
          · exact h2 _ _ hc)⟩
        have hbit := fun m => bit_any _ (.slice a key.length c) key place (W2.drewN m) (((((hak.new hB0).new HB1.out).bytes hby).new (below_drewN _ _ _))) (by omega) (by omega)
        simp only [bitI_nat] at hbit
        have HFK : Hid (KeepsFrom w4.heap.size W W2) := hid ⟨Nat.le_trans HKF.out.size d3.size, fun k o hk1 hk2 hk3 => (d3.block k (Array.getElem?_eq_some_iff.1 (HKF.out.same k o hk1 hk2 hk3)).1 (fun e => by
          have hl1 := HY1.out.block
          rw [HZB.out] at hl1
          rw [e] at hk2
          have := HKF.out.same b o (by rw [← e]; exact hk1) hk2 hk3
          rw [hl1] at this
          cases this
          cases hk3)).trans (HKF.out.same k o hk1 hk2 hk3)⟩
        have HSP : Hid (Spares (fun i => i = b) w W2) := hid ((Spares.of_new (S := fun i => i = b) (hB0.trans (HB1.out.mono (by omega)))).andThen d3 (fun i hi => .inl hi))
        have HNB : Hid (w.heap.size ≤ W1.heap.size) := hid (by omega)
        clear hW2 q0 q1 q2 q3 q4 qf d1 d2 d3 hp0' hp1'
        cases hb : bit key place with
        | true =>
          simp only [hb] at hbit
          refine quiet_in_round (by kernel_rfl) (by kernel_rfl) (by kernel_rfl) (by rintro ⟨_, _, h⟩; exact h) ?_
          repeat (go_big_quiet_step ((go_at_call 20; exact Calls.quiet_of_same (hbit _))))
          refine wpQuiet_nil ?_
          intro _ hw'
          obtain ⟨nq2, hw''⟩ := hw'
          subst hw''
          gi_wp2
          refine ⟨HFK.out.trans ⟨Nat.le_refl _, fun _ _ _ h _ => h⟩, ⟨rfl, pre, ⟨z, hy⟩, rfl, hpass, HZP.out⟩, ⟨z, hy⟩, by simp, W1.heap.size, HNB.out, ?_, HD2.out, ?_⟩
          · simp only [HZB.out, Nod.mk, if_pos hb, Nod.cells, Nod.at', Nod.move_blk]
            exact HD1.out
          · simp only [HZB.out]
            exact HSP.out.andThen (T := fun _ => False) ⟨rfl, rfl, rfl, Nat.le_refl _, fun _ _ _ => rfl⟩ (fun i hi => hi.elim)
        | false =>
          simp only [hb] at hbit
          refine quiet_in_round (by kernel_rfl) (by kernel_rfl) (by kernel_rfl) (by rintro ⟨_, _, h⟩; exact h) ?_
          repeat (go_big_quiet_step ((go_at_call 20; exact Calls.quiet_of_same (hbit _))))
          refine wpQuiet_nil ?_
          intro _ hw'
          obtain ⟨nq2, hw''⟩ := hw'
          subst hw''
          have HD1' : Hid ((W2.drewN nq2).heap[b]? = _) := hid HD1.out
          have HD2' : Hid ((W2.drewN nq2).heap[W1.heap.size]? = _) := hid HD2.out
          have HFK' : Hid (KeepsFrom w4.heap.size W (W2.drewN nq2)) := hid (HFK.out.trans ⟨Nat.le_refl _, fun _ _ _ h _ => h⟩)
          have HSP' : Hid (Spares (fun i => i = b) w (W2.drewN nq2)) := hid (HSP.out.andThen (T := fun _ => False) ⟨rfl, rfl, rfl, Nat.le_refl _, fun _ _ _ => rfl⟩ (fun i hi => hi.elim))
          clear HD1 HD2 HFK HSP hbit e0 e1 ea HD3 hby
          generalize W2.drewN nq2 = W3 at *
          have r3 : W3.cell? ⟨b, 3, none⟩ = some (.pointer (some ⟨W1.heap.size, 0, none⟩)) := by rw [cell_of_row _ _ _ _ _ _ HD1'.out]; rfl
          have r4 : W3.cell? ⟨b, 4, none⟩ = some (.pointer (some ⟨ba, 0, none⟩)) := by rw [cell_of_row _ _ _ _ _ _ HD1'.out]; rfl
          have rf : ∀ j, W3.frozen? ⟨b, j, none⟩ = false := fun j => by simp [World.frozen?, HD1'.out]
          have r4' : (W3.drew.setCell ⟨b, 3, none⟩ (.pointer (some ⟨ba, 0, none⟩))).cell? ⟨b, 4, none⟩ = some (.pointer (some ⟨ba, 0, none⟩)) := by rw [cell_of_row _ _ _ _ _ _ (heap_setCell_same W3.drew b 3 _ _ _ HD1'.out)]; rfl
          have rf4' : (W3.drew.setCell ⟨b, 3, none⟩ (.pointer (some ⟨ba, 0, none⟩))).frozen? ⟨b, 4, none⟩ = false := by rw [World.frozen?_setCell]; exact rf 4
          have HNE : Hid (W1.heap.size ≠ b) := hid (by omega)
          have HF0 := hid (swap_world W3 b _ _ _ _ _ (.pointer (some ⟨ba, 0, none⟩)) (.pointer (some ⟨W1.heap.size, 0, none⟩)) _ HD1'.out)
          gi_wp2
          have HPS := hid hpass
          clear hpass hZ hyw hyb c0 c1 c2 c3 h0 hab hsz ht4 hs4 hB0 ht ha hak hav hna hpp hpb hpi l0 l1 lb la nb1 nb2
          refine region_in_round (by kernel_rfl) (by kernel_rfl) (by rintro ⟨_, _, h⟩; exact h) ?_
          refine wpAny_take (i := 0) (v := ?_) rfl (by kernel_rfl) (by kernel_rfl) (by kernel_rfl) (fun _ _ _ h => h) (Or.inl ⟨by rfl, ?_⟩) ?_; rotate_left; (focus (intro w; go_simp <;> with_reducible rfl)); (try simp only [Act.put, List.setIfInBounds_toArray, List.set_cons_zero, List.set_cons_succ])
          refine wpAny_take (i := 1) (v := ?_) rfl (by kernel_rfl) (by kernel_rfl) (by kernel_rfl) (fun _ _ _ h => h) (Or.inl ⟨by rfl, ?_⟩) ?_; rotate_left; (focus (intro w; go_simp <;> with_reducible rfl)); (try simp only [Act.put, List.setIfInBounds_toArray, List.set_cons_zero, List.set_cons_succ])
          refine wpAny_take (i := 2) (v := ?_) rfl (by kernel_rfl) (by kernel_rfl) (by kernel_rfl) (fun _ _ _ h => h) (Or.inl ⟨by rfl, ?_⟩) ?_; rotate_left; (focus (intro w; go_simp <;> with_reducible rfl)); (try simp only [Act.put, List.setIfInBounds_toArray, List.set_cons_zero, List.set_cons_succ])
          refine wpAny_take (i := 3) (v := ?_) rfl (by kernel_rfl) (by kernel_rfl) (by kernel_rfl) (fun _ _ _ h => h) (Or.inl ⟨by rfl, ?_⟩) ?_; rotate_left; (focus (intro w; go_simp <;> with_reducible rfl)); (try simp only [Act.put, List.setIfInBounds_toArray, List.set_cons_zero, List.set_cons_succ])
          refine wpAny_take (i := 4) (v := ?_) rfl (by kernel_rfl) (by kernel_rfl) (by kernel_rfl) (fun _ _ _ h => h) (Or.inl ⟨by rfl, ?_⟩) ?_; rotate_left; (focus (intro w; go_simp <;> with_reducible rfl)); (try simp only [Act.put, List.setIfInBounds_toArray, List.set_cons_zero, List.set_cons_succ])
          refine wpAny_take (i := 6) (v := ?_) rfl (by kernel_rfl) (by kernel_rfl) (by kernel_rfl) (fun _ _ _ h => h) (Or.inl ⟨by rfl, ?_⟩) ?_; rotate_left; (focus (intro w; go_simp <;> with_reducible rfl)); (try simp only [Act.put, List.setIfInBounds_toArray, List.set_cons_zero, List.set_cons_succ])
          refine wpAny_take (i := 7) (v := ?_) rfl (by kernel_rfl) (by kernel_rfl) (by kernel_rfl) (fun _ _ _ h => h) (Or.inl ⟨by rfl, ?_⟩) ?_; rotate_left; (focus (intro w; go_simp <;> with_reducible rfl)); (try simp only [Act.put, List.setIfInBounds_toArray, List.set_cons_zero, List.set_cons_succ])
          refine wpAny_take (i := 8) (v := ?_) rfl (by kernel_rfl) (by kernel_rfl) (by kernel_rfl) (fun _ _ _ h => h) (Or.inl ⟨by rfl, ?_⟩) ?_; rotate_left; (focus (intro w; go_simp <;> with_reducible rfl)); (try simp only [Act.put, List.setIfInBounds_toArray, List.set_cons_zero, List.set_cons_succ])
          refine take_loads (i := 5) (j := 9) (pi := ⟨b, 4, none⟩) (pj := ⟨b, 3, none⟩) _ Tryd.underlying67 (by kernel_rfl) rfl rfl rfl rfl rfl rfl (by kernel_rfl) (by kernel_rfl) r4 r3 ?_ ?_
          · simp only [Act.put, List.setIfInBounds_toArray, List.set_cons_zero, List.set_cons_succ]
            refine take_load (i := 9) (pi := ⟨b, 3, none⟩) _ Tryd.underlying67 (by kernel_rfl) rfl rfl rfl (by kernel_rfl) r3 ?_
            simp only [Act.put, List.setIfInBounds_toArray, List.set_cons_zero, List.set_cons_succ]
            refine wpAny_take (i := 10) (v := ?_) rfl (by kernel_rfl) (by kernel_rfl) (by kernel_rfl) (fun _ _ _ h => h) (Or.inl ⟨by rfl, ?_⟩) ?_; rotate_left; (focus (intro w; go_simp <;> with_reducible rfl)); (try simp only [Act.put, List.setIfInBounds_toArray, List.set_cons_zero, List.set_cons_succ])
            refine wpAny_take (i := 11) (v := ?_) rfl (by kernel_rfl) (by kernel_rfl) (by kernel_rfl) (fun _ _ _ h => h) (Or.inl ⟨by rfl, ?_⟩) ?_; rotate_left; (focus (intro w; go_simp <;> with_reducible rfl)); (try simp only [Act.put, List.setIfInBounds_toArray, List.set_cons_zero, List.set_cons_succ])
            refine take_store (i := 12) (pi := ⟨b, 3, none⟩) (p := some ⟨ba, 0, none⟩) Tryd.infoNodep (by kernel_rfl) rfl rfl rfl rfl (by kernel_rfl) (by kernel_rfl) r3 (rf 3) ?_
            refine wpAny_take (i := 13) (v := ?_) rfl (by kernel_rfl) (by kernel_rfl) (by kernel_rfl) (fun _ _ _ h => h) (Or.inl ⟨by rfl, ?_⟩) ?_; rotate_left; (focus (intro w; go_simp <;> with_reducible rfl)); (try simp only [Act.put, List.setIfInBounds_toArray, List.set_cons_zero, List.set_cons_succ])
            refine wpAny_take (i := 14) (v := ?_) rfl (by kernel_rfl) (by kernel_rfl) (by kernel_rfl) (fun _ _ _ h => h) (Or.inl ⟨by rfl, ?_⟩) ?_; rotate_left; (focus (intro w; go_simp <;> with_reducible rfl)); (try simp only [Act.put, List.setIfInBounds_toArray, List.set_cons_zero, List.set_cons_succ])
            refine take_store (i := 15) (pi := ⟨b, 4, none⟩) (p := some ⟨W1.heap.size, 0, none⟩) Tryd.infoNodep (by kernel_rfl) rfl rfl rfl rfl (by kernel_rfl) (by kernel_rfl) r4' rf4' ?_
            refine wpAny_done (by kernel_rfl) ?_ _
            refine swap_end (Q := Exit.then _ _ Exit.normal _) HF0.out ?_
            intro W5 hf1 hf2
            have HF1 := hid hf1
            have HF2 := hid hf2
            clear hf1 hf2 r3 r4 rf r4' rf4' HF0
            gi_wp2
            refine ⟨HFK'.out.trans ⟨HF2.out.size, fun k o hk1 hk2 hk3 => (HF2.out.block k (Array.getElem?_eq_some_iff.1 hk2).1 (fun e => by rw [e, HD1'.out] at hk2; cases hk2; cases hk3)).trans hk2⟩, ⟨rfl, pre, ⟨z, hy⟩, rfl, HPS.out, HZP.out⟩, ⟨z, hy⟩, by simp, W1.heap.size, HNB.out, ?_, ?_, ?_⟩
            · simp only [HZB.out, Nod.mk, hb, Bool.false_eq_true, if_false, Nod.cells, Nod.at', Nod.move_blk]
              exact HF1.out
            · exact (HF2.out.block _ (Array.getElem?_eq_some_iff.1 HD2'.out).1 HNE.out).trans HD2'.out
            · simp only [HZB.out]
              exact HSP'.out.andThen HF2.out (fun i hi => .inl hi)
          · simp only [Act.put, List.setIfInBounds_toArray, List.set_cons_zero, List.set_cons_succ]
            refine take_load (i := 5) (pi := ⟨b, 4, none⟩) _ Tryd.underlying67 (by kernel_rfl) rfl rfl rfl (by kernel_rfl) r4 ?_
            simp only [Act.put, List.setIfInBounds_toArray, List.set_cons_zero, List.set_cons_succ]
            refine wpAny_take (i := 10) (v := ?_) rfl (by kernel_rfl) (by kernel_rfl) (by kernel_rfl) (fun _ _ _ h => h) (Or.inl ⟨by rfl, ?_⟩) ?_; rotate_left; (focus (intro w; go_simp <;> with_reducible rfl)); (try simp only [Act.put, List.setIfInBounds_toArray, List.set_cons_zero, List.set_cons_succ])
            refine wpAny_take (i := 11) (v := ?_) rfl (by kernel_rfl) (by kernel_rfl) (by kernel_rfl) (fun _ _ _ h => h) (Or.inl ⟨by rfl, ?_⟩) ?_; rotate_left; (focus (intro w; go_simp <;> with_reducible rfl)); (try simp only [Act.put, List.setIfInBounds_toArray, List.set_cons_zero, List.set_cons_succ])
            refine take_store (i := 12) (pi := ⟨b, 3, none⟩) (p := some ⟨ba, 0, none⟩) Tryd.infoNodep (by kernel_rfl) rfl rfl rfl rfl (by kernel_rfl) (by kernel_rfl) r3 (rf 3) ?_
            refine wpAny_take (i := 13) (v := ?_) rfl (by kernel_rfl) (by kernel_rfl) (by kernel_rfl) (fun _ _ _ h => h) (Or.inl ⟨by rfl, ?_⟩) ?_; rotate_left; (focus (intro w; go_simp <;> with_reducible rfl)); (try simp only [Act.put, List.setIfInBounds_toArray, List.set_cons_zero, List.set_cons_succ])
            refine wpAny_take (i := 14) (v := ?_) rfl (by kernel_rfl) (by kernel_rfl) (by kernel_rfl) (fun _ _ _ h => h) (Or.inl ⟨by rfl, ?_⟩) ?_; rotate_left; (focus (intro w; go_simp <;> with_reducible rfl)); (try simp only [Act.put, List.setIfInBounds_toArray, List.set_cons_zero, List.set_cons_succ])
            refine take_store (i := 15) (pi := ⟨b, 4, none⟩) (p := some ⟨W1.heap.size, 0, none⟩) Tryd.infoNodep (by kernel_rfl) rfl rfl rfl rfl (by kernel_rfl) (by kernel_rfl) r4' rf4' ?_
            refine wpAny_done (by kernel_rfl) ?_ _
            refine swap_end (Q := Exit.then _ _ Exit.normal _) HF0.out ?_
            intro W5 hf1 hf2
            have HF1 := hid hf1
            have HF2 := hid hf2
            clear hf1 hf2 r3 r4 rf r4' rf4' HF0
            gi_wp2
            refine ⟨HFK'.out.trans ⟨HF2.out.size, fun k o hk1 hk2 hk3 => (HF2.out.block k (Array.getElem?_eq_some_iff.1 hk2).1 (fun e => by rw [e, HD1'.out] at hk2; cases hk2; cases hk3)).trans hk2⟩, ⟨rfl, pre, ⟨z, hy⟩, rfl, HPS.out, HZP.out⟩, ⟨z, hy⟩, by simp, W1.heap.size, HNB.out, ?_, ?_, ?_⟩
            · simp only [HZB.out, Nod.mk, hb, Bool.false_eq_true, if_false, Nod.cells, Nod.at', Nod.move_blk]
              exact HF1.out
            · exact (HF2.out.block _ (Array.getElem?_eq_some_iff.1 HD2'.out).1 HNE.out).trans HD2'.out
            · simp only [HZB.out]
              exact HSP'.out.andThen HF2.out (fun i hi => .inl hi)
end Go.Proofs.YthkeofinamedfaaDoor
