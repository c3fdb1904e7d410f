/- Contract of trie.Tree.leaf. -/
import Derived.Test.YthkeofinamedfaaDoorDownF
namespace Go.Proofs.YthkeofinamedfaaDoor
open Go.RowKit Go.Shelf
set_option linter.unusedVariables false
set_option maxRecDepth 20000
attribute [local go_sem] Oper.semAt_some

/-- Where the leaf lies to which a key leads. -/
def endO : Option Nod → List UInt8 → Option Addr
  | none, _ => none
  | some x, key => some ⟨(x.end' key).blk, 0, none⟩

/-- Where the last of some nodes lies. -/
def lastOf {o : Option Nod} {key : List UInt8} (pre : List (Step o key)) : Option Addr := pre.getLast?.map fun x => ⟨x.1.blk, 0, none⟩

theorem lastOf_snoc {o : Option Nod} {key : List UInt8} (pre : List (Step o key)) (x : Step o key) : lastOf (pre ++ [x]) = some ⟨x.1.blk, 0, none⟩ := by simp [lastOf]

theorem lastOf_all {o : Option Nod} {key : List UInt8} (pre : List (Step o key)) (h : pre.map (·.1) = wayO o key) : lastOf pre = endO o key := by
  have e : lastOf pre = (pre.map (·.1)).getLast?.map fun x => ⟨x.blk, 0, none⟩ := by
    rw [List.getLast?_map]
    simp [lastOf]
  rw [e, h]
  cases o with
  | none => rfl
  | some x => rw [wayO, Nod.way_last]; rfl

/-- Three new blocks. -/
theorem alloc3 (w : World) (o1 o2 o3 : Obj) : (((w.alloc o1).alloc o2).alloc o3).heap[w.heap.size]? = some o1 ∧ (((w.alloc o1).alloc o2).alloc o3).heap[w.heap.size + 1]? = some o2 ∧ (((w.alloc o1).alloc o2).alloc o3).heap[w.heap.size + 2]? = some o3 ∧
    Below w.heap.size w (((w.alloc o1).alloc o2).alloc o3) ∧ (((w.alloc o1).alloc o2).alloc o3).heap.size = w.heap.size + 3 := by
  have s1 : (w.alloc o1).heap.size = w.heap.size + 1 := World.size_alloc _ _
  have s2 : ((w.alloc o1).alloc o2).heap.size = w.heap.size + 2 := by rw [World.size_alloc, s1]
  have b1 := (Below.refl (w.alloc o1).heap.size (w.alloc o1)).alloc (Nat.le_refl _) o2
  have b2 := (Below.refl ((w.alloc o1).alloc o2).heap.size ((w.alloc o1).alloc o2)).alloc (Nat.le_refl _) o3
  have n1 := World.alloc_heap_new w o1
  have n2 := World.alloc_heap_new (w.alloc o1) o2
  have n3 := World.alloc_heap_new ((w.alloc o1).alloc o2) o3
  rw [s1] at n2
  rw [s2] at n3
  refine ⟨(b2.block _ (by omega)).trans ((b1.block _ (by omega)).trans n1), (b2.block _ (by omega)).trans n2, n3, (((Below.refl _ w).alloc (Nat.le_refl _) _).alloc (by omega) _).alloc (by omega) _, by rw [World.size_alloc, s2]⟩

set_option maxHeartbeats 4000000 in
theorem leaf_any (tb : Nat) (o : Option Nod) (kv : Value) (key : List UInt8) (w : World) (ht : TreeAt w tb o) (hk : Says w kv key) :
    Calls Tryd.prog 45 #[.pointer (some ⟨tb, 0, none⟩), kv] w fun e w' => e = .returned (.pointer (endO o key)) ∧ Below w.heap.size w w' := by
  have hk0 := hk
  obtain ⟨a, c, rfl, g1, g2, gn, g3⟩ := hk
  clear g3 gn
  refine (callsIn_wide (n := 3)).1 ?_
  refine callsIn_of_wp_marks Tryd.func45 rfl trivial ?_ rfl
  simp only [Tryd.ntmps45, List.size_toArray, List.length_cons, List.length_nil, Nat.reduceAdd, Nat.reduceSub, Array.replicate_succ, Array.replicate_zero, List.push_toArray, List.append_toArray, List.nil_append, List.cons_append]
  gi_wp2_with (refine ⟨trivial, ?_⟩; gi_at_call 50; refine (callsIn_wide.2 (down_any _ _ _ _ _)).mono ?_; rintro e w' ⟨rfl, rfl⟩)
  obtain ⟨hc0, hc1, hc2, hB0, hsz⟩ := alloc3 w (.cells #[.pointer none] 67) (.cells #[.pointer (some ⟨tb, 0, none⟩)] 24) (.cells #[.slice a key.length c] 28)
  generalize ((w.alloc (.cells #[.pointer none] 67)).alloc (.cells #[.pointer (some ⟨tb, 0, none⟩)] 24)).alloc (.cells #[.slice a key.length c] 28) = w3 at *
  have ht3 := ht.new hB0
  have hs3 : Shows w.heap.size w3 (.slice a key.length c) key := hk0.below hB0
  refine wpIn_rangeFunc_ownG rfl (by omega) (gf := 71) (lb := #[.pointer (some ⟨w.heap.size + 1, 0, none⟩), .pointer (some ⟨w.heap.size + 1 + 1, 0, none⟩)]) rfl trivial (enters_of Tryd.func71 (by kernel_rfl) rfl)
    (down_stops _ (w.heap.size + 1) (w.heap.size + 1 + 1) w.heap.size tb a key.length c key o w3 (by rw [cell_of_row _ _ _ _ _ _ hc1]; rfl) hc2 hs3 ht3 ht.lt (by omega)) kpB_t (kpB_b (by omega) (by omega)) (Below.refl _ _) (fun _ => rfl)
    (fun pre W => (W.cell? ⟨w.heap.size, 0, none⟩ = some (.pointer (lastOf pre)) ∧ W.frozen? ⟨w.heap.size, 0, none⟩ = false) ∧ Below w.heap.size w W)
    (fun _ _ _ => False)
    (OwnFrom.and (Own.from (fun s A B row hs hg hr => ⟨cell_kept hs.1 hg hr, (frozen_kept hs.1 hg hr).trans hs.2⟩) _) (ownFrom_below (Nat.le_refl _) (by omega)))
    (fun _ _ _ _ _ hs _ _ => hs)
    ⟨⟨by rw [cell_of_row _ _ _ _ _ _ hc0]; rfl, by simp [World.frozen?, hc0]⟩, hB0⟩
    (fun x => { tmps := #[.pointer (some ⟨tb, 0, none⟩), .slice a key.length c, undef, undef, .pointer none, .pointer (some ⟨w.heap.size, 0, none⟩), x.1.at', .pointer (some ⟨tb, 0, none⟩), .slice a key.length c, .func (.func 71) #[] #[.pointer (some ⟨w.heap.size + 1, 0, none⟩), .pointer (some ⟨w.heap.size + 1 + 1, 0, none⟩)], x.1.at', undef, undef], defers := [] }) ?assign ?body ?done ?stop
  case assign =>
    intro l x W K hK
    gi_wp2
    exact hK
  case body =>
    rintro l pre ⟨x, hx⟩ W ⟨⟨hc, hf⟩, hB⟩ _
    obtain ⟨b, hb⟩ : ∃ b, x.blk = b := ⟨_, rfl⟩
    simp only [Nod.at', hb]
    gi_wp2
    refine ⟨(KeepsOthers.setCell _ _ _).from _, ⟨(Below.refl w.heap.size W).setCell (p := ⟨w.heap.size, 0, none⟩) (Nat.le_refl _) _, ?_⟩, ⟨?_, by rw [World.frozen?_setCell]; exact hf⟩, hB.setCell (p := ⟨w.heap.size, 0, none⟩) (Nat.le_refl _) _⟩
    · exact Below.heap_setCell _ _ _ _ (by simp; omega)
    · rw [lastOf_snoc, hb]; exact World.cell?_setCell_same' _ _ _ (by rw [hc]; rfl)
  case done =>
    rintro D ys W hD hS ⟨⟨hc, _⟩, hB⟩ hK
    rw [lastOf_all ys hS] at hc
    gi_wp2
    refine ⟨by simp, .inl ⟨_, _, rfl, run_takeDeferred hK, ?_⟩⟩
    exact ⟨_, results_tmp rfl _ _ _, rfl, hB.trans (belowK_b (w := w) (Nat.le_refl _) W D _ _ (by omega) hK rfl rfl)⟩
  case stop =>
    rintro D c pre W _ _ h _
    exact h.elim
end Go.Proofs.YthkeofinamedfaaDoor
