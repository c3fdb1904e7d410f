/- Contracts of bytes.Clone, trie.clone, trie.Tree.Get, Count. -/
import Derived.Test.YthkeofinamedfaaDoorLeafF
import Derived.Test.YthkeofinamedfaaDoorTake
import Derived.Deep.RegionHeld3
import Derived.Deep.RegionWith
import Derived.Deep.Heap
namespace Go.Proofs.YthkeofinamedfaaDoor
open Go.RowKit Go.Shelf
set_option linter.unusedVariables false
set_option maxRecDepth 20000

/-- The value of a key. -/
def look (o : Option Tri) (key : List UInt8) : Option (List UInt8) :=
  match o with
  | none => none
  | some t => if (t.near key).1 = key then some (t.near key).2 else none

/-- A copy: nil of nil, else in a block of its own. -/
def Copy (B : Nat) (w : World) (v : Value) (bs : List UInt8) : Prop := w.ownsRow B 5 1 v bs.length (bs.map by8)

theorem Copy.says {B : Nat} {w : World} {v : Value} {bs : List UInt8} (h : Copy B w v bs) : Says w v bs := (shows_of_owns h).2

theorem Copy.new {B : Nat} {w w' : World} {v : Value} {bs : List UInt8} (h : Copy B w v bs) (hb : Below w.heap.size w w') : Copy B w' v bs :=
  (Spares.of_new (S := fun _ => False) hb).row h (fun _ _ => id)

theorem Copy.spares {S : Nat → Prop} {B B' : Nat} {w w' : World} {v : Value} {bs : List UInt8} (h : Copy B w v bs) (hk : Spares S w w') (hS : ∀ i, S i → i < B) (hB : B' ≤ B) : Copy B' w' v bs :=
  owns_lower (hk.row h (fun g hg hs => by have h1 := (h.lt g hg).1; have h2 := hS g hs; omega)) (fun g hg => by have h1 := (h.lt g hg).1; omega)

theorem spares_set (w : World) (ad : Addr) (v : Value) : Spares (fun b => b = ad.block) w (w.setCell ad v) :=
  ⟨rfl, rfl, rfl, by simp [World.setCell], fun k _ hk => Below.heap_setCell w ad v k hk⟩

theorem spares_set2 (w : World) (g i j : Nat) (u v : Value) : Spares (fun b => b = g) w ((w.setCell ⟨g, i, none⟩ u).setCell ⟨g, j, none⟩ v) :=
  (spares_set w ⟨g, i, none⟩ u).andThen (spares_set _ ⟨g, j, none⟩ v) (fun i hi => .inl hi)

theorem Copy.form {B : Nat} {w : World} {v : Value} {bs : List UInt8} (h : Copy B w v bs) : ∃ a c, v = .slice a bs.length c := by
  rcases h.2 with ⟨rfl, hn⟩ | ⟨g, cap, cur, rfl, _⟩
  · exact ⟨none, 0, by rw [hn]⟩
  · exact ⟨_, _, rfl⟩

set_option maxHeartbeats 1000000 in
theorem copy_any (v : Value) (bs : List UInt8) (w : World) (h : Says w v bs) (hl : bs.length ≤ 70368744177664) :
    Calls Tryd.prog 47 #[v] w fun e w' => ∃ v', e = .returned v' ∧ Copy w.heap.size w' v' bs ∧ Below w.heap.size w w' := by
  have h0 := h
  obtain ⟨a, c, rfl, h1, h2, hn, h3⟩ := h
  cases a with
  | some ad =>
    refine (clone_any ad bs.length c bs w.heap.size w h0 (Nat.le_refl _) hl).mono ?_
    rintro e w' ⟨v', rfl, _, ho, hb⟩
    exact ⟨v', rfl, ho, hb⟩
  | none =>
    have hc := hn rfl
    subst hc
    have hb : bs = [] := List.eq_nil_of_length_eq_zero (by omega)
    subst hb
    have hq := fun wx => Lib.run_eql_slice_nil (P := Tryd.prog) wx 28 5 none 0 0 0 0 Tryd.underlying28
    go_enter Tryd.func47, Tryd.ntmps47
    go_wp2
    go_ret
    exact ⟨_, rfl, World.ownsRow_nil _ _ _ _, Below.refl _ _⟩

theorem Tryd.infoEntry : (Tryd.prog.info? 52).map (·.size) = some 2 := by kernel_rfl

/-- Two new blocks. -/
theorem alloc2 (w : World) (o1 o2 : Obj) : ((w.alloc o1).alloc o2).heap[w.heap.size]? = some o1 ∧ ((w.alloc o1).alloc o2).heap[w.heap.size + 1]? = some o2 ∧ Below w.heap.size w ((w.alloc o1).alloc o2) ∧ ((w.alloc o1).alloc o2).heap.size = w.heap.size + 2 := by
  have s1 : (w.alloc o1).heap.size = w.heap.size + 1 := World.size_alloc _ _
  have b1 := (Below.refl (w.alloc o1).heap.size (w.alloc o1)).alloc (Nat.le_refl _) o2
  have n1 := World.alloc_heap_new w o1
  have n2 := World.alloc_heap_new (w.alloc o1) o2
  rw [s1] at n2
  exact ⟨(b1.block _ (by omega)).trans n1, n2, ((Below.refl _ w).alloc (Nat.le_refl _) _).alloc (by omega) _, by rw [World.size_alloc, s1]⟩

set_option maxHeartbeats 4000000 in
theorem entry_any (kv vv : Value) (k v : List UInt8) (w : World) (hk : Says w kv k) (hv : Says w vv v) (hkl : k.length ≤ 70368744177664) (hvl : v.length ≤ 70368744177664) :
    Calls Tryd.prog 41 #[.agg #[kv, vv]] w fun e w' => ∃ kv' vv', e = .returned (.agg #[kv', vv']) ∧ Copy w.heap.size w' kv' k ∧ Copy w.heap.size w' vv' v ∧ (∀ g, kv'.ownBlock = some g → vv'.ownBlock ≠ some g) ∧ Below w.heap.size w w' := by
  obtain ⟨a1, c1, rfl, _⟩ := id hk
  obtain ⟨a2, c2, rfl, _⟩ := id hv
  obtain ⟨h20, h21, hb2, hz2⟩ := alloc2 w (.cells #[.slice a1 k.length c1, .slice a2 v.length c2] 52) (.cells #[.slice none 0 0, .slice none 0 0] 52)
  go_enter Tryd.func41, Tryd.ntmps41
  go_wp2_with fail
  generalize (w.alloc (.cells #[.slice a1 k.length c1, .slice a2 v.length c2] 52)).alloc (.cells #[.slice none 0 0, .slice none 0 0] 52) = w2 at *
  have hS2 : w2.drew.cell? ⟨w.heap.size, 0, none⟩ = some (.slice a1 k.length c1) ∧ w2.drew.cell? ⟨w.heap.size, 1, none⟩ = some (.slice a2 v.length c2) := ⟨cell_of_row _ _ _ _ _ _ h20, cell_of_row _ _ _ _ _ _ h20⟩
  have hbd : Below w.heap.size w w2.drew := hb2.drew
  have HC1 := copy_any (.slice a1 k.length c1) k w2.drew (hk.new hbd) hkl
  have HV := hid (hv.new hbd)
  have HD := hid hbd
  have H21 : Hid (w2.drew.heap[w.heap.size + 1]? = _) := hid h21
  have HZ : Hid (w2.drew.heap.size = w.heap.size + 2) := hid hz2
  clear h20 h21 hb2 hz2 hk hv hbd
  go_region_held3 (fun w' => w'.cell? ⟨w.heap.size, 0, none⟩ = some (.slice a1 k.length c1) ∧ w'.cell? ⟨w.heap.size, 1, none⟩ = some (.slice a2 v.length c2))
    (first | assumption | go_keep)
    ((go_at_call 47; first
      | (refine HC1.mono ?_; clear HC1; rintro e w3 ⟨kv', rfl, hk3, hb3⟩; obtain ⟨a3, c3, rfl⟩ := hk3.form
         have hz3 := hb3.size
         have hS3 : w3.cell? ⟨w.heap.size, 0, none⟩ = some (.slice a1 k.length c1) ∧ w3.cell? ⟨w.heap.size, 1, none⟩ = some (.slice a2 v.length c2) := ⟨(hb3.cell (p := ⟨w.heap.size, 0, none⟩) (by have := HZ.out; show w.heap.size < _; omega)).trans hS2.1, (hb3.cell (p := ⟨w.heap.size, 1, none⟩) (by have := HZ.out; show w.heap.size < _; omega)).trans hS2.2⟩
         have HC2 := copy_any (.slice a2 v.length c2) v w3 (HV.out.new hb3) hvl
         have HK3 := hid hk3
         have HB3 := hid hb3
         clear hk3 hb3)
      | (refine HC2.mono ?_; clear HC2; rintro e w4 ⟨vv', rfl, hv4, hb4⟩; obtain ⟨a4, c4, rfl⟩ := hv4.form
         have hz4 := hb4.size
         have hS4 : w4.cell? ⟨w.heap.size, 0, none⟩ = some (.slice a1 k.length c1) ∧ w4.cell? ⟨w.heap.size, 1, none⟩ = some (.slice a2 v.length c2) := ⟨(hb4.cell (p := ⟨w.heap.size, 0, none⟩) (by have := HZ.out; show w.heap.size < _; omega)).trans hS3.1, (hb4.cell (p := ⟨w.heap.size, 1, none⟩) (by have := HZ.out; show w.heap.size < _; omega)).trans hS3.2⟩
         have H41 : w4.heap[w.heap.size + 1]? = some (.cells #[.slice none 0 0, .slice none 0 0] 52 (0, 0)) := (hb4.block _ (by have := HZ.out; omega)).trans ((HB3.out.block _ (by have := HZ.out; omega)).trans H21.out)
         have h410 : w4.cell? ⟨w.heap.size + 1, 0, none⟩ = some (.slice none 0 0) := by rw [cell_of_row _ _ _ _ _ _ H41]; rfl
         have h411 : w4.cell? ⟨w.heap.size + 1, 1, none⟩ = some (.slice none 0 0) := by rw [cell_of_row _ _ _ _ _ _ H41]; rfl
         have f410 : w4.frozen? ⟨w.heap.size + 1, 0, none⟩ = false := by simp [World.frozen?, H41]
         have f411 : w4.frozen? ⟨w.heap.size + 1, 1, none⟩ = false := by simp [World.frozen?, H41]
         have HK4 := hid (HK3.out.new hb4)
         have HV4 := hid hv4
         have HB4 := hid hb4
         have H4 := hid H41
         clear hv4 hb4 H41)))
  go_wp2_with fail
  refine bodyPost_ret (v := .agg #[.slice a3 k.length c3, .slice a4 v.length c4]) (results_cell_row (p := 2) (ty := 52) rfl _ _ (w.heap.size + 1) 52 #[.slice a3 k.length c3, .slice a4 v.length c4] (0, 0) _ rfl (heap_setCell_same _ _ _ _ _ _ (heap_setCell_same _ _ _ _ _ _ H4.out)) Tryd.underlying52 rfl Tryd.infoEntry) rfl ⟨_, _, rfl, ?_, ?_, ?_, ?_⟩
  · exact HK4.out.spares (spares_set2 _ _ _ _ _ _) (fun i hi => by have := HZ.out; omega) (by have := HZ.out; omega)
  · exact HV4.out.spares (spares_set2 _ _ _ _ _ _) (fun i hi => by have := HZ.out; omega) (by have := HZ.out; omega)
  · intro g hg hg'
    have h1 := (HK3.out.lt g hg).2
    have h2 := (HV4.out.lt g hg').1
    omega
  · have e1 := HZ.out
    exact ((HD.out.trans ((HB3.out.mono (by omega)).trans (HB4.out.mono (by omega)))).setCell (p := ⟨w.heap.size + 1, 0, none⟩) (by simp) _).setCell (p := ⟨w.heap.size + 1, 1, none⟩) (by simp) _
set_option maxHeartbeats 4000000 in
theorem get_any (tb : Nat) (o : Option Nod) (kv : Value) (key : List UInt8) (w : World) (ht : TreeAt w tb o) (hk : Says w kv key) :
    Calls Tryd.prog 24 #[.pointer (some ⟨tb, 0, none⟩), kv] w fun e w' => ∃ v', e = .returned (.tuple #[v', .bool (look (triO o) key).isSome]) ∧ Copy w.heap.size w' v' ((look (triO o) key).getD []) ∧ Below w.heap.size w w' := by
  have HL := leaf_any tb o kv key w ht hk
  obtain ⟨a, c, rfl, _⟩ := id hk
  cases o with
  | none =>
    simp only [endO] at HL
    go_enter Tryd.func24, Tryd.ntmps24
    go_wp2_with (go_at_call 45; refine HL.mono ?_; rintro e w1 ⟨rfl, hb1⟩)
    go_ret2
    exact ⟨_, rfl, World.ownsRow_nil _ _ _ _, hb1⟩
  | some x =>
    obtain ⟨b, lk, lv, k, v, he, hn⟩ := Nod.end_leaf x key
    have hlx := Nod.way_lies (ht.lies x rfl) _ (Nod.end_mem x key)
    rw [he] at hlx
    simp only [endO, he, Nod.blk] at HL
    have hsh : Tri.short (k, v) := by rw [← hn]; exact Tri.short_of x.tri ht.wf _ (Tri.near_mem _ _)
    obtain ⟨hblk, hsk, hsv⟩ := hlx
    obtain ⟨a1, c1, rfl, _⟩ := id hsk
    obtain ⟨a2, c2, rfl, _⟩ := id hsv
    have hlook : look (triO (some x)) key = if k = key then some v else none := by simp [look, triO, hn]
    have hbl : b < w.heap.size := (Array.getElem?_eq_some_iff.1 hblk).1
    by_cases hkk : k = key
    · rw [hlook, if_pos hkk]
      subst hkk
      clear hlook
      go_enter Tryd.func24, Tryd.ntmps24
      go_wp2_with (first
        | (go_at_call 45; refine HL.mono ?_; clear HL; rintro e w1 ⟨rfl, hb1⟩
           have h0 : w1.cell? ⟨b, 0, none⟩ = some (.slice a1 k.length c1) := by rw [hb1.cell (p := ⟨b, 0, none⟩) hbl, cell_of_row _ _ _ _ _ _ hblk]; rfl
           have h1 : w1.cell? ⟨b, 1, none⟩ = some (.slice a2 v.length c2) := by rw [hb1.cell (p := ⟨b, 1, none⟩) hbl, cell_of_row _ _ _ _ _ _ hblk]; rfl
           have HE := equal_any _ _ (.slice a1 k.length c1) (.slice a k.length c) k k w1 (hsk.new hb1) (hk.new hb1)
           rw [decide_eq_true rfl] at HE
           have HC := copy_any (.slice a2 v.length c2) v w1 (hsv.new hb1) (by have := hsh.2; simp at this; omega))
        | (go_at_call 46; refine HE.mono ?_; clear HE; rintro e w2 ⟨rfl, rfl⟩)
        | (go_at_call 47; refine HC.mono ?_; clear HC; rintro e w3 ⟨v3, rfl, hc3, hb3⟩))
      go_ret2
      exact ⟨_, rfl, owns_lower hc3 (fun g hg => by have h1 := (hc3.lt g hg).1; have h2 := hb1.size; omega), hb1.trans (hb3.mono hb1.size)⟩
    · rw [hlook, if_neg hkk]
      clear hlook
      go_enter Tryd.func24, Tryd.ntmps24
      go_wp2_with (first
        | (go_at_call 45; refine HL.mono ?_; clear HL; rintro e w1 ⟨rfl, hb1⟩
           have h0 : w1.cell? ⟨b, 0, none⟩ = some (.slice a1 k.length c1) := by rw [hb1.cell (p := ⟨b, 0, none⟩) hbl, cell_of_row _ _ _ _ _ _ hblk]; rfl
           have HE := equal_any _ _ (.slice a1 k.length c1) (.slice a key.length c) k key w1 (hsk.new hb1) (hk.new hb1)
           rw [decide_eq_false hkk] at HE)
        | (go_at_call 46; refine HE.mono ?_; clear HE; rintro e w2 ⟨rfl, rfl⟩))
      go_ret2
      exact ⟨_, rfl, World.ownsRow_nil _ _ _ _, hb1⟩

set_option maxHeartbeats 1000000 in
theorem count_any (tb : Nat) (o : Option Nod) (w : World) (ht : TreeAt w tb o) :
    Calls Tryd.prog 12 #[.pointer (some ⟨tb, 0, none⟩)] w fun e w' => e = .returned (.int .i64 ((Tri.entsO (triO o)).length : Nat)) ∧ w' = w := by
  have h1 : w.cell? ⟨tb, 1, none⟩ = some (.int .i64 ((Tri.entsO (triO o)).length : Nat)) := by rw [cell_of_row _ _ _ _ _ _ ht.head]; rfl
  go_enter Tryd.func12, Tryd.ntmps12
  go_wp2
  go_ret
  exact ⟨rfl, rfl⟩

set_option maxHeartbeats 1000000 in
theorem new_any (w : World) :
    Calls Tryd.prog 9 #[] w fun e w' => e = .returned (.pointer (some ⟨w.heap.size, 0, none⟩)) ∧ TreeAt w' w.heap.size none ∧ Below w.heap.size w w' ∧ w'.heap.size = w.heap.size + 1 := by
  go_enter Tryd.func9, Tryd.ntmps9
  go_wp2
  go_ret
  exact ⟨rfl, ⟨World.alloc_heap_new _ _, fun x e => (by cases e), fun x e => (by cases e), trivial⟩, (Below.refl _ _).alloc (Nat.le_refl _) _, World.size_alloc _ _⟩
end Go.Proofs.YthkeofinamedfaaDoor
