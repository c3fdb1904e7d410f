/- Contracts of trie.Tree.entries (an iterator) and trie.Tree.All. -/
import Derived.Test.YthkeofinamedfaaDoorAllP
namespace Go.Proofs.YthkeofinamedfaaDoor
open Go.RowKit Go.Shelf
set_option linter.unusedVariables false
set_option linter.unusedSimpArgs false
set_option maxRecDepth 20000
attribute [local go_sem] Oper.semAt_some

theorem roundIn_any {m m' : Nat} {P : Program} {l : Nat} {f : FuncId} {tmps : Array Value} {assign body : Code} {w : World} {R : Ending → World → Prop}
    (h : RoundIn Fence.wide m P l f tmps assign body w R) : RoundIn Fence.wide m' P l f tmps assign body w R := ⟨h.1, fun c cs _ => h.2 c cs (fun d h => by cases h)⟩

theorem yieldAt_any {m : Nat} (m' : Nat) {P : Program} {l : Nat} {args : Array Value} {W : World} {R : Ending → World → Prop} (h : YieldAt Fence.wide m P l args W R) : YieldAt Fence.wide m' P l args W R := by
  obtain ⟨fn, tmps, assign, body, hy, hR⟩ := h
  exact ⟨fn, tmps, assign, body, hy, roundIn_any hR⟩

set_option maxHeartbeats 4000000 in
/-- 'n.tell(yield)': the entries of a node's leaves come, from left to right. -/
theorem tell_in (l n₀ N : Nat) {o : Option Nod} (J Jx : List (Item o) → World → Prop)
    (hY : ∀ (m : Nat) (pre : List (Item o)) (y : Item o) (W : World), J pre W → pre.length < N → YieldAt Fence.wide m Tryd.prog l #[.agg #[y.1.kv, y.1.vv]] W fun e W' =>
      (e = .returned (.bool true) ∧ J (pre ++ [y]) W' ∧ Below n₀ W W') ∨ (e = .returned (.bool false) ∧ Jx (pre ++ [y]) W')) (x : Nod) :
    ∀ (hx : ∀ y ∈ x.items, y ∈ itemsO o) (n : Nat) (pre : List (Item o)) (W : World), x.Rests W → (∀ b ∈ x.blks, b < n₀) → J pre W → pre.length + x.items.length ≤ N →
      CallsIn Fence.wide n Tryd.prog 66 #[x.at', .func (.yield l) #[] #[]] W fun e W' =>
        (e = .returned (.bool true) ∧ (∃ q : List (Item o), q.map (·.1) = x.items ∧ J (pre ++ q) W') ∧ Below n₀ W W') ∨ (e = .returned (.bool false) ∧ ∃ q : List (Item o), q.map (·.1) <+: x.items ∧ Jx (pre ++ q) W') := by
  induction x with
  | leaf b kv vv k v =>
    intro hx n pre W hr hb hJ hN
    obtain ⟨hblk, ⟨a1, n1, c1, rfl⟩, ⟨a2, n2, c2, rfl⟩⟩ := hr
    have hm : (⟨.slice a1 n1 c1, .slice a2 n2 c2, k, v⟩ : EntV) ∈ itemsO o := hx _ (by simp [Nod.items])
    have h3 : W.cell? ⟨b, 3, none⟩ = some (.pointer none) := by rw [cell_of_row _ b _ _ _ _ hblk]; rfl
    have h0 : W.cell? ⟨b, 0, none⟩ = some (.slice a1 n1 c1) := by rw [cell_of_row _ b _ _ _ _ hblk]; rfl
    have h1 : W.cell? ⟨b, 1, none⟩ = some (.slice a2 n2 c2) := by rw [cell_of_row _ b _ _ _ _ hblk]; rfl
    have hL := isLeaf_any b none W h3
    obtain ⟨fn, tmps, assign, body, hy, hR⟩ := hY (n - 1) pre ⟨_, hm⟩ W hJ (by simp [Nod.items] at hN; omega)
    simp only [Nod.at']
    rw [show (Nod.leaf b (.slice a1 n1 c1) (.slice a2 n2 c2) k v).blk = b from rfl]
    simp only [Option.isNone_none] at hL
    refine callsIn_of_wp Tryd.func66 rfl trivial ?_ rfl
    simp only [Tryd.ntmps66, List.size_toArray, List.length_cons, List.length_nil, Nat.reduceAdd, Nat.reduceSub, Array.replicate_succ, Array.replicate_zero, List.push_toArray, List.append_toArray, List.nil_append, List.cons_append]
    gi_wp2_with (first
      | (refine ⟨trivial, fun h => (by cases h), ?_⟩; gi_at_call 52; refine (callsIn_wide.2 hL).mono ?_; clear hL; rintro e w' ⟨rfl, rfl⟩)
      | (refine ⟨fun h => (by cases h), hR.mono ?_⟩; clear hR; rintro e W2 (⟨rfl, hJ2, hb2⟩ | ⟨rfl, hx2⟩)))
    · go_ret
      exact .inl ⟨rfl, ⟨[⟨_, hm⟩], rfl, hJ2⟩, hb2⟩
    · go_ret
      exact .inr ⟨rfl, [⟨_, hm⟩], List.prefix_refl _, hx2⟩
  | fork b p xl xr ihl ihr =>
    intro hx n pre W hr hb hJ hN
    obtain ⟨hblk, hl, hr'⟩ := hr
    have hbb : b < n₀ := hb b (by simp [Nod.blks])
    have hbl : ∀ i ∈ xl.blks, i < n₀ := fun i hi => hb i (by simp [Nod.blks, hi])
    have hbr : ∀ i ∈ xr.blks, i < n₀ := fun i hi => hb i (by simp [Nod.blks, hi])
    simp only [Nod.items, List.length_append] at hN
    have h3 : W.cell? ⟨b, 3, none⟩ = some xl.at' := by rw [cell_of_row _ b _ _ _ _ hblk]; rfl
    have h4 : W.cell? ⟨b, 4, none⟩ = some xr.at' := by rw [cell_of_row _ b _ _ _ _ hblk]; rfl
    have hL := isLeaf_any b (some ⟨xl.blk, 0, none⟩) W h3
    simp only [Option.isNone_some] at hL
    have ih1 := (ihl (fun y hy => hx y (by simp [Nod.items, hy])) (n - 1) pre W hl hbl hJ (by omega)).mono (R' := fun e W1 =>
        (e = .returned (.bool true) ∧ W1.cell? ⟨b, 4, none⟩ = some xr.at' ∧ CallsIn Fence.wide (n - 1) Tryd.prog 66 #[xr.at', .func (.yield l) #[] #[]] W1 fun e W' =>
          (e = .returned (.bool true) ∧ (∃ q : List (Item o), q.map (·.1) = (Nod.fork b p xl xr).items ∧ J (pre ++ q) W') ∧ Below n₀ W W') ∨ (e = .returned (.bool false) ∧ ∃ q : List (Item o), q.map (·.1) <+: (Nod.fork b p xl xr).items ∧ Jx (pre ++ q) W')) ∨
        (e = .returned (.bool false) ∧ ∃ q : List (Item o), q.map (·.1) <+: (Nod.fork b p xl xr).items ∧ Jx (pre ++ q) W1))
      (fun e W1 h => h.elim (fun ⟨he, ⟨q, hq, hj⟩, hb1⟩ => .inl ⟨he, (hb1.cell (p := ⟨b, 4, none⟩) hbb).trans h4, (ihr (fun y hy => hx y (by simp [Nod.items, hy])) (n - 1) (pre ++ q) W1 (hr'.below hbr hb1) hbr hj (by have := congrArg List.length hq; simp at this ⊢; omega)).mono (fun e W2 h2 => h2.elim
          (fun ⟨he2, ⟨q2, hq2, hj2⟩, hb2⟩ => .inl ⟨he2, ⟨q ++ q2, by simp [hq, hq2, Nod.items], by rw [← List.append_assoc]; exact hj2⟩, hb1.trans hb2⟩)
          (fun ⟨he2, q2, hq2, hj2⟩ => .inr ⟨he2, q ++ q2, by rw [List.map_append, hq]; exact (List.prefix_append_right_inj _).2 hq2, by rw [← List.append_assoc]; exact hj2⟩))⟩)
        (fun ⟨he, q, hq, hj⟩ => .inr ⟨he, q, hq.trans (List.prefix_append _ _), hj⟩))
    clear ihl ihr hl hr' hJ hY
    simp only [Nod.at'] at h3 h4 ih1 ⊢
    rw [show (Nod.fork b p xl xr).blk = b from rfl]
    obtain ⟨bl, hbl'⟩ : ∃ bl, xl.blk = bl := ⟨_, rfl⟩
    obtain ⟨br, hbr'⟩ : ∃ br, xr.blk = br := ⟨_, rfl⟩
    rw [hbl'] at h3 ih1
    rw [hbr'] at h4 ih1
    clear hbl' hbr' hblk
    generalize (Nod.fork b p xl xr).items = its at *
    refine callsIn_of_wp Tryd.func66 rfl trivial ?_ rfl
    simp only [Tryd.ntmps66, List.size_toArray, List.length_cons, List.length_nil, Nat.reduceAdd, Nat.reduceSub, Array.replicate_succ, Array.replicate_zero, List.push_toArray, List.append_toArray, List.nil_append, List.cons_append]
    gi_wp2_with (first
      | (refine ⟨trivial, fun h => (by cases h), ?_⟩; gi_at_call 52; refine (callsIn_wide.2 hL).mono ?_; clear hL; rintro e w' ⟨rfl, rfl⟩)
      | (refine ⟨trivial, fun h => (by cases h), ?_⟩; gi_at_call 66; refine ih1.mono ?_; clear ih1; rintro e W1 (⟨rfl, c1, ih2⟩ | ⟨rfl, hx1⟩))
      | (refine ⟨trivial, fun h => (by cases h), ?_⟩; gi_at_call 66; refine ih2.mono ?_; clear ih2; rintro e W2 (⟨rfl, hj2, hb2⟩ | ⟨rfl, hx2⟩)))
    · go_ret
      exact .inl ⟨rfl, hj2, hb2⟩
    · go_ret
      exact .inr ⟨rfl, hx2⟩
    · refine ⟨trivial, ?_⟩
      gi_wp2
      go_ret
      exact .inr ⟨rfl, hx1⟩

set_option maxHeartbeats 2000000 in
/-- 't.entries()': the tree's pointer is boxed. -/
theorem entries_any (tb : Nat) (w : World) :
    Calls Tryd.prog 40 #[.pointer (some ⟨tb, 0, none⟩)] w fun e w' => e = .returned (.func (.func 65) #[] #[.pointer (some ⟨w.heap.size, 0, none⟩)]) ∧ w' = w.alloc (.cells #[.pointer (some ⟨tb, 0, none⟩)] 24) := by
  go_enter Tryd.func40, Tryd.ntmps40
  go_wp2
  go_ret
  exact ⟨rfl, rfl⟩

set_option maxHeartbeats 4000000 in
theorem entries1_in (n l bt n₀ tb : Nat) (o : Option Nod) (J Jx : List (Item o) → World → Prop)
    (hY : ∀ (pre : List (Item o)) (y : Item o) (W : World), J pre W → pre.length < (itemsO o).length → YieldAt Fence.wide (n - 1) Tryd.prog l #[.agg #[y.1.kv, y.1.vv]] W fun e W' =>
      (e = .returned (.bool true) ∧ J (pre ++ [y]) W' ∧ Below n₀ W W') ∨ (e = .returned (.bool false) ∧ Jx (pre ++ [y]) W'))
    (W : World) (hbt : W.cell? ⟨bt, 0, none⟩ = some (.pointer (some ⟨tb, 0, none⟩))) (ht : TreeAt W tb o) (hown : ∀ b, own tb o b → b < n₀) (h0 : J [] W) :
    CallsIn Fence.wide n Tryd.prog 65 #[.func (.yield l) #[] #[], .pointer (some ⟨bt, 0, none⟩)] W fun e W' => (∃ v, e = .returned v) ∧
      ((∃ ys : List (Item o), ys.map (·.1) = itemsO o ∧ J ys W') ∨ (∃ pre : List (Item o), pre.map (·.1) <+: itemsO o ∧ Jx pre W')) := by
  have hh0 : W.cell? ⟨tb, 0, none⟩ = some (.pointer (topOf o)) := by rw [cell_of_row _ _ _ _ _ _ ht.head]; rfl
  cases o with
  | none =>
    simp only [topOf] at hh0
    refine callsIn_of_wp Tryd.func65 rfl trivial ?_ rfl
    simp only [Tryd.ntmps65, List.size_toArray, List.length_cons, List.length_nil, Nat.reduceAdd, Nat.reduceSub, Array.replicate_succ, Array.replicate_zero, List.push_toArray, List.append_toArray, List.nil_append, List.cons_append]
    gi_wp2
    go_end0
    exact ⟨⟨_, rfl⟩, .inl ⟨[], rfl, h0⟩⟩
  | some x =>
    simp only [topOf] at hh0
    have HT := tell_in l n₀ x.items.length J Jx (fun m pre y W h1 h2 => yieldAt_any m (hY pre y W h1 h2)) x (fun y hy => hy) (n - 1) [] W (Nod.rests (ht.lies x rfl)) (fun b hb => hown b (.inr ⟨x, rfl, hb⟩)) h0 (by simp)
    simp only [Nod.at'] at HT
    obtain ⟨b0, hb0⟩ : ∃ b0, x.blk = b0 := ⟨_, rfl⟩
    rw [hb0] at hh0 HT
    clear hb0 hY h0
    refine callsIn_of_wp Tryd.func65 rfl trivial ?_ rfl
    simp only [Tryd.ntmps65, List.size_toArray, List.length_cons, List.length_nil, Nat.reduceAdd, Nat.reduceSub, Array.replicate_succ, Array.replicate_zero, List.push_toArray, List.append_toArray, List.nil_append, List.cons_append]
    gi_wp2_with (refine ⟨trivial, fun h => (by cases h), ?_⟩; gi_at_call 66; refine HT.mono ?_; clear HT; rintro e W1 (⟨rfl, ⟨q, hq, hj⟩, _⟩ | ⟨rfl, q, hq, hj⟩))
    · go_end0
      exact ⟨⟨_, rfl⟩, .inl ⟨q, hq, by simpa using hj⟩⟩
    · go_end0
      exact ⟨⟨_, rfl⟩, .inr ⟨q, hq, by simpa using hj⟩⟩

theorem entries_stops (n bt n₀ tb : Nat) (o : Option Nod) (w : World) (hbt : w.cell? ⟨bt, 0, none⟩ = some (.pointer (some ⟨tb, 0, none⟩))) (ht : TreeAt w tb o) (hown : ∀ b, own tb o b → b < n₀) (hn : n₀ ≤ w.heap.size) :
    SeqStopsK Fence.wide n Tryd.prog 65 #[.pointer (some ⟨bt, 0, none⟩)] (fun y : Item o => #[.agg #[y.1.kv, y.1.vv]]) (Below n₀) (fun ys => ys.map (·.1) = itemsO o) (fun pre => pre.map (·.1) <+: itemsO o) (itemsO o).length w :=
  fun l J Jx W hW _ _ hY h0 =>
    entries1_in n l bt n₀ tb o J Jx hY W ((hW.cell (p := ⟨bt, 0, none⟩) (World.block_lt_of_cell? _ _ hbt)).trans hbt) (ht.new hW) hown h0

theorem Tryd.infoEntryZ : (Tryd.prog.info? 52).map (fun i => (i.zero, i.size, i.bytes)) = some (some (.agg #[.slice none 0 0, .slice none 0 0]), 2, 48) := by kernel_rfl
theorem Tryd.infoEntries : (Tryd.prog.info? 33).map (·.size) = some 1 := by kernel_rfl

set_option maxHeartbeats 4000000 in
theorem all_any (tb : Nat) (o : Option Nod) (w : World) (ht : TreeAt w tb o) (hn : (Tri.entsO (triO o)).length < 1000000000) :
    Calls Tryd.prog 15 #[.pointer (some ⟨tb, 0, none⟩)] w fun e w' => ∃ sv xs, e = .returned sv ∧ Rowed w.heap.size w' sv xs ∧ xs.map EntV.ent = Tri.entsO (triO o) ∧ Below w.heap.size w w' := by
  refine (callsIn_wide (n := 3)).1 ?_
  refine callsIn_of_wp_marks Tryd.func15 rfl trivial ?_ rfl
  simp only [Tryd.ntmps15, List.size_toArray, List.length_cons, List.length_nil, Nat.reduceAdd, Nat.reduceSub, Array.replicate_succ, Array.replicate_zero, List.push_toArray, List.append_toArray, List.nil_append, List.cons_append]
  gi_wp2_with (refine ⟨trivial, ?_⟩; gi_at_call 40; refine (callsIn_wide.2 (entries_any _ _)).mono ?_; rintro e w' ⟨rfl, rfl⟩)
  obtain ⟨c0, c1, hB0, hsz⟩ := alloc2 w (.cells #[.slice none 0 0] 33) (.cells #[.pointer (some ⟨tb, 0, none⟩)] 24)
  generalize (w.alloc (.cells #[.slice none 0 0] 33)).alloc (.cells #[.pointer (some ⟨tb, 0, none⟩)] 24) = w2 at *
  have ht2 := ht.new hB0
  refine wpIn_rangeFunc_ownH rfl (by omega) (gf := 65) (lb := #[.pointer (some ⟨w.heap.size + 1, 0, none⟩)]) rfl trivial (enters_of Tryd.func65 (by kernel_rfl) rfl)
    (entries_stops _ (w.heap.size + 1) w.heap.size tb o w2 (by rw [cell_of_row _ _ _ _ _ _ c1]; rfl) ht2 ht.lt (by omega)) belowK_t (belowK_b (by omega)) (Below.refl _ _) (fun _ => rfl)
    (fun pre W => ∃ sv xs, AllI w pre W sv xs)
    (fun _ _ _ => False)
    (allI_own (by omega))
    (fun _ _ _ _ _ hs _ _ => hs)
    ⟨.slice none 0 0, [], c0, rowed_nil _ _, rfl, hB0, by omega⟩
    (fun y a' W => ∃ eb, a' = { tmps := #[.pointer (some ⟨tb, 0, none⟩), undef, .slice none 0 0, .pointer (some ⟨w.heap.size, 0, none⟩), .pointer (some ⟨eb, 0, none⟩), .pointer (some ⟨tb, 0, none⟩), .func (.func 65) #[] #[.pointer (some ⟨w.heap.size + 1, 0, none⟩)], .agg #[y.1.kv, y.1.vv], undef, undef, undef, undef, undef, undef], defers := [] } ∧ W.heap[eb]? = some (.cells #[y.1.kv, y.1.vv] 52 (0, 0)) ∧ w.heap.size + 2 ≤ eb ∧ ∃ sv, W.heap[w.heap.size]? = some (.cells #[sv] 33 (0, 0)) ∧ sv.ownBlock ≠ some eb)
    (fun y a' s W W' row hs hg hr => by
      obtain ⟨eb, h1, h2, h3, sv, h4, h5⟩ := hs
      exact ⟨eb, h1, cells_own () W W' row h2 hg hr, h3, sv, cells_own () W W' row h4 hg hr, h5⟩)
    ?assign ?body ?done ?stop
  case stop =>
    rintro D cd pre W _ _ h _
    exact h.elim
  case assign =>
    rintro l pre ⟨y, hy⟩ W K ⟨sv, xs, hI⟩ hK
    have hsy : (∃ a n c, y.kv = .slice a n c) ∧ (∃ a n c, y.vv = .slice a n c) := by
      cases o with
      | none => cases hy
      | some X =>
        obtain ⟨⟨a, c, e, _⟩, ⟨a', c', e', _⟩⟩ := Nod.items_says (ht.lies X rfl) y hy
        exact ⟨⟨_, _, _, e⟩, ⟨_, _, _, e'⟩⟩
    obtain ⟨kv, vv, k, v⟩ := y
    obtain ⟨⟨a1, n1, c1, rfl⟩, ⟨a2, n2, c2, rfl⟩⟩ := hsy
    have hnew := World.alloc_heap_new W (.cells #[.slice none 0 0, .slice none 0 0] 52)
    have hbA : Below W.heap.size W (W.alloc (.cells #[.slice none 0 0, .slice none 0 0] 52)) := (Below.refl _ _).alloc (Nat.le_refl _) _
    have q0 : (W.alloc (.cells #[.slice none 0 0, .slice none 0 0] 52)).cell? ⟨W.heap.size, 0, none⟩ = some (.slice none 0 0) := by rw [cell_of_row _ _ _ _ _ _ hnew]; rfl
    have q1 : (W.alloc (.cells #[.slice none 0 0, .slice none 0 0] 52)).cell? ⟨W.heap.size, 1, none⟩ = some (.slice none 0 0) := by rw [cell_of_row _ _ _ _ _ _ hnew]; rfl
    have HI := hid hI
    have HK := hid hK
    clear hI hK
    have hbN : Below W.heap.size W (W.alloc (.cells #[.slice a1 n1 c1, .slice a2 n2 c2] 52)) := (Below.refl _ _).alloc (Nat.le_refl _) _
    gi_wp2
    exact HK.out _ _ (keepsFrom_of (S := fun _ => False) (Spares.of_new hbN) (fun i h => h.elim)) (hbN.mono HI.out.below.size) ⟨sv, xs, HI.out.new hbN⟩ ⟨W.heap.size, rfl, World.alloc_heap_new _ _, HI.out.big, sv, (HI.out.new hbN).box, fun e => by have := (HI.out.rowd.row.lt _ e).2; omega⟩
  case done =>
    rintro D ys W hD hS ⟨sv, xs, hI⟩ hK
    have g0 : W.cell? ⟨w.heap.size, 0, none⟩ = some sv := by rw [cell_of_row _ _ _ _ _ _ hI.box]; rfl
    obtain ⟨a5, n5, c5', rfl⟩ : ∃ a n c, sv = .slice a n c := by
      rcases hI.rowd.row.2 with ⟨rfl, _⟩ | ⟨g, cap, cur, rfl, _⟩
      · exact ⟨none, 0, 0, rfl⟩
      · exact ⟨_, _, _, rfl⟩
    have HI := hid ((allI_own1 (Nat.le_refl _)).putObj (.deferred none) hI (by omega) hK rfl)
    clear hI
    gi_wp2
    refine ⟨by simp, .inl ⟨_, _, rfl, run_takeDeferred hK, ?_⟩⟩
    refine ⟨_, results_tmp (t := 2) rfl _ _ _, _, xs, rfl, HI.out.rowd.lower (Nat.le_add_right _ _), ?_, HI.out.below⟩
    have e : ys.map (fun y => y.1.ent) = (ys.map (·.1)).map EntV.ent := by rw [List.map_map]; rfl
    rw [HI.out.same, ← itemsO_ents, e, hS]
  case body =>
    rintro l pre ⟨y, hy⟩ a' W hl0 _ ⟨sv, xs, hI⟩ ⟨eb, rfl, heb, hebl, sv', hsv1, hsv2⟩ hlt
    have HNE : Hid (sv.ownBlock ≠ some eb) := hid (by
      rw [hI.box] at hsv1
      simp only [Option.some.injEq, Obj.cells.injEq, and_true, Array.mk.injEq, List.cons.injEq] at hsv1
      rw [hsv1]; exact hsv2)
    have hy0 := hy
    obtain ⟨hsk, hsv⟩ : Says W y.kv y.k ∧ Says W y.vv y.v := by
      cases o with
      | none => cases hy
      | some X => exact ⟨(Nod.items_says (ht.lies X rfl) y hy).1.new hI.below, (Nod.items_says (ht.lies X rfl) y hy).2.new hI.below⟩
    have hsh : Tri.short y.ent := by
      cases o with
      | none => cases hy
      | some X => exact Tri.short_of X.tri ht.wf _ (by rw [← Nod.items_ents]; exact List.mem_map_of_mem hy)
    obtain ⟨kv, vv, k, v⟩ := y
    simp only at hsk hsv heb ⊢
    obtain ⟨ak, ck, rfl, _⟩ := id hsk
    obtain ⟨av, cv, rfl, _⟩ := id hsv
    have HI := hid hI
    have hbig := hI.big
    have hebz : eb < W.heap.size := (Array.getElem?_eq_some_iff.1 heb).1
    have hS0 : (fun W' : World => W'.cell? ⟨w.heap.size, 0, none⟩ = some sv ∧ W'.cell? ⟨eb, 0, none⟩ = some (.slice ak k.length ck) ∧ W'.cell? ⟨eb, 1, none⟩ = some (.slice av v.length cv)) W.drew := ⟨by show W.cell? _ = _; rw [cell_of_row _ _ _ _ _ _ hI.box]; rfl, by show W.cell? _ = _; rw [cell_of_row _ _ _ _ _ _ heb]; rfl, by show W.cell? _ = _; rw [cell_of_row _ _ _ _ _ _ heb]; rfl⟩
    gi_wp2
    refine last_in_round (fun W' : World => W'.cell? ⟨w.heap.size, 0, none⟩ = some sv ∧ W'.cell? ⟨eb, 0, none⟩ = some (.slice ak k.length ck) ∧ W'.cell? ⟨eb, 1, none⟩ = some (.slice av v.length cv)) 5 (by kernel_rfl) (by kernel_rfl) (by rintro ⟨_, _, h⟩; exact h) ?_
    refine wpAnyE_take (i := 0) (v := ?_) rfl (by kernel_rfl) (by kernel_rfl) (by kernel_rfl) (by kernel_rfl) (by kernel_rfl) (fun _ _ _ h => h) (Or.inl ⟨by rfl, ?_⟩) (by assumption) ?_; rotate_left; (focus (intro w hSw; (try dsimp only at hSw); (try obtain ⟨hSw1, hSw2, hSw3⟩ := hSw); go_simp <;> with_reducible rfl)); (try simp only [Act.put, List.getElem_toArray, List.getElem_cons_zero, List.getElem_cons_succ, List.setIfInBounds_toArray, List.set_cons_zero, List.set_cons_succ])
    refine wpAnyE_take (i := 1) (v := ?_) rfl (by kernel_rfl) (by kernel_rfl) (by kernel_rfl) (by kernel_rfl) (by kernel_rfl) (fun _ _ _ h => h) (Or.inl ⟨by rfl, ?_⟩) (by assumption) ?_; rotate_left; (focus (intro w hSw; (try dsimp only at hSw); (try obtain ⟨hSw1, hSw2, hSw3⟩ := hSw); go_simp <;> with_reducible rfl)); (try simp only [Act.put, List.getElem_toArray, List.getElem_cons_zero, List.getElem_cons_succ, List.setIfInBounds_toArray, List.set_cons_zero, List.set_cons_succ])
    have HC := entry_any _ _ k v W.drew (hsk.new (below_drewN _ _ 1)) (hsv.new (below_drewN _ _ 1)) (by have := hsh.1; simp [EntV.ent] at this; omega) (by have := hsh.2; simp [EntV.ent] at this; omega)
    refine takeE_call (i := 2) #[.agg #[.slice ak k.length ck, .slice av v.length cv]] (fun u w' => ∃ kv' vv', u = .agg #[kv', vv'] ∧ Copy W.heap.size w' kv' k ∧ Copy W.heap.size w' vv' v ∧ (∀ g, kv'.ownBlock = some g → vv'.ownBlock ≠ some g) ∧ Below W.heap.size W w') (by kernel_rfl) rfl rfl rfl (by kernel_rfl) (enters_of Tryd.func41 (by kernel_rfl) rfl) (HC.mono fun e w' ⟨kv', vv', h1, h2, h3, h4, h5⟩ => ⟨_, h1, kv', vv', rfl, h2, h3, h4, (below_drewN _ _ 1).trans h5⟩) ?_
    rintro _ W1 ⟨kv', vv', rfl, hk1, hv1, hap1, hb1⟩
    obtain ⟨a3, c3, rfl⟩ := hk1.form
    obtain ⟨a4, c4, rfl⟩ := hv1.form
    have hS1 : (fun W' : World => W'.cell? ⟨w.heap.size, 0, none⟩ = some sv ∧ W'.cell? ⟨eb, 0, none⟩ = some (.slice ak k.length ck) ∧ W'.cell? ⟨eb, 1, none⟩ = some (.slice av v.length cv)) W1 := ⟨(hb1.cell (p := ⟨w.heap.size, 0, none⟩) (World.block_lt_of_cell? W _ hS0.1)).trans hS0.1, (hb1.cell (p := ⟨eb, 0, none⟩) hebz).trans hS0.2.1, (hb1.cell (p := ⟨eb, 1, none⟩) hebz).trans hS0.2.2⟩
    refine ⟨hS1, ?_⟩
    simp only [Act.put, List.getElem_toArray, List.getElem_cons_zero, List.getElem_cons_succ, List.setIfInBounds_toArray, List.set_cons_zero, List.set_cons_succ]
    obtain ⟨i0, hi, hz0, hz1, hz2⟩ := info_parts Tryd.infoEntryZ
    have hbA : Below W1.heap.size W1 (W1.alloc (.cells #[.slice a3 k.length c3, .slice a4 v.length c4] 52)) := (Below.refl _ _).alloc (Nat.le_refl _) _
    have hnA := World.alloc_heap_new W1 (.cells #[.slice a3 k.length c3, .slice a4 v.length c4] 52)
    have hz1' := hb1.size
    have hS2 : (fun W' : World => W'.cell? ⟨w.heap.size, 0, none⟩ = some sv ∧ W'.cell? ⟨eb, 0, none⟩ = some (.slice ak k.length ck) ∧ W'.cell? ⟨eb, 1, none⟩ = some (.slice av v.length cv)) (W1.alloc (.cells #[.slice a3 k.length c3, .slice a4 v.length c4] 52)) := ⟨(hbA.cell (p := ⟨w.heap.size, 0, none⟩) (World.block_lt_of_cell? W1 _ hS1.1)).trans hS1.1, (hbA.cell (p := ⟨eb, 0, none⟩) (World.block_lt_of_cell? W1 _ hS1.2.1)).trans hS1.2.1, (hbA.cell (p := ⟨eb, 1, none⟩) (World.block_lt_of_cell? W1 _ hS1.2.2)).trans hS1.2.2⟩
    refine takeE_slice (i := 3) #[.slice a3 k.length c3, .slice a4 v.length c4] i0 _ (by kernel_rfl) rfl rfl rfl (by kernel_rfl) Tryd.underlying33 hi hz0 (by rw [hz1]; rfl) (by simp) (by simp) hS2 ?_
    simp only [Act.put, List.getElem_toArray, List.getElem_cons_zero, List.getElem_cons_succ, List.setIfInBounds_toArray, List.set_cons_zero, List.set_cons_succ]
    have hb2 : Below W.heap.size W (W1.alloc (.cells #[.slice a3 k.length c3, .slice a4 v.length c4] 52)) := hb1.trans (hbA.mono hb1.size)
    generalize W1.alloc (.cells #[.slice a3 k.length c3, .slice a4 v.length c4] 52) = W2 at *
    have hown2 := (Spares.of_new (S := fun _ => False) hb2).row HI.out.rowd.row (fun _ _ => id)
    have hcnt : xs.length + 1 < 1000000001 := by
      have q1 := congrArg List.length hI.same
      have q2 := congrArg List.length (itemsO_ents o)
      simp at q1 q2
      omega
    have hb2z := hb2.size
    refine takeE_append (i := 4) (s := .tmp 8) (x := .tmp 11) (t := 33) (by kernel_rfl) rfl rfl rfl (w.heap.size + 2) 52 i0 _ 2 48 Tryd.underlying33 hi hz0 hz1 hz2 rfl (by decide) sv xs.length (xs.flatMap EntV.two) (by kernel_rfl) hown2 ⟨W1.heap.size, 0, none⟩ 1 1 [.slice a3 k.length c3, .slice a4 v.length c4] (by kernel_rfl) rfl (by have := World.news_of_block hnA; simpa using this) (by intro u hu; simp at hu; rcases hu with rfl | rfl <;> rfl) (by decide) (by unfold maxLen; omega) (by omega) (by omega) ?_
    intro g cap W3 hown3 hgrow hat hglt
    have hlow : ∀ i, sv.ownBlock = some i → w.heap.size + 2 ≤ i ∧ i < W.heap.size := fun i hi => HI.out.rowd.row.lt i hi
    have hz2' := hbA.size
    have hS3 : (fun W' : World => W'.cell? ⟨w.heap.size, 0, none⟩ = some sv ∧ W'.cell? ⟨eb, 0, none⟩ = some (.slice ak k.length ck) ∧ W'.cell? ⟨eb, 1, none⟩ = some (.slice av v.length cv)) W3 := ⟨(hgrow.cell_far ⟨w.heap.size, 0, none⟩ (World.block_lt_of_cell? W2 _ hS2.1) (fun e => by have h1 : w.heap.size + 2 ≤ w.heap.size := (hlow _ e.symm).1; omega)).trans hS2.1,
      (hgrow.cell_far ⟨eb, 0, none⟩ (World.block_lt_of_cell? W2 _ hS2.2.1) (fun e => HNE.out e.symm)).trans hS2.2.1, (hgrow.cell_far ⟨eb, 1, none⟩ (World.block_lt_of_cell? W2 _ hS2.2.2) (fun e => HNE.out e.symm)).trans hS2.2.2⟩
    have hfr : W3.frozen? ⟨w.heap.size, 0, none⟩ = false := by
      rw [hgrow.frozen_far ⟨w.heap.size, 0, none⟩ (World.block_lt_of_cell? W2 _ hS2.1) (fun e => by have h1 : w.heap.size + 2 ≤ w.heap.size := (hlow _ e.symm).1; omega)]
      have hgot2 := (hb2.block w.heap.size (by omega)).trans HI.out.box
      simp [World.frozen?, hgot2]
    have HF := hid (fun B => all_step (B := B) HI.out ⟨_, hy0⟩ hb1 hk1 hv1 hap1 hbA hgrow hown3 hat)
    refine ⟨hS3, ?_⟩
    simp only [Act.put, List.getElem_toArray, List.getElem_cons_zero, List.getElem_cons_succ, List.setIfInBounds_toArray, List.set_cons_zero, List.set_cons_succ]
    clear hown3 hgrow hat hlow hown2 hnA hS2 hS1 hb2 hb1 hbA HC
    refine takeE_store (i := 5) (pi := ⟨w.heap.size, 0, none⟩) (v := .slice (some ⟨g, 0, none⟩) (xs.length + 1) cap) Tryd.infoEntries (by kernel_rfl) rfl rfl rfl rfl (by kernel_rfl) (by kernel_rfl) rfl rfl hS3.1 hfr (.inr rfl) ?_
    refine wpAnyE_done (by kernel_rfl) ?_ _
    gi_wp2
    exact ⟨(HF.out _).1, (HF.out 0).2.1, (HF.out 0).2.2⟩
end Go.Proofs.YthkeofinamedfaaDoor
