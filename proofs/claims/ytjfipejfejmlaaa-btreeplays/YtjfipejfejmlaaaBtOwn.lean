/- Their owner writes over entries (stage 14). -/
import Derived.Test.YtjfipejfejmlaaaOwned
import Derived.Test.YtjfipejfejmlaaaBtMem
namespace Go.Proofs.Ytjfipejfejmlaaa
open Go.RowKit Go.Shelf
set_option linter.unusedVariables false
set_option linter.unusedSimpArgs false
set_option maxRecDepth 20000

theorem marked_nil0 (B : Nat) (w : World) : Marked B w [] 0 := fun j v hv => by simp at hv

theorem marked_cons {B : Nat} {w : World} {x : Value} {xs : List Value} {vs : List Value} (hx : Full B w x xs) (h : Marked B w vs 0) : Marked B w (x :: vs) 0 := by
  intro j v hv
  match j, hv with
  | 0, hv => simp at hv; subst hv; exact ⟨xs, hx, fun h => by omega⟩
  | j + 1, hv =>
    obtain ⟨ys, hf, _⟩ := h j v (by simpa using hv)
    exact ⟨ys, hf, fun h => by omega⟩

theorem apart_nil : Apart [] := fun i j u v g hu => by simp at hu

/-- One more, whose block is none of the others'. -/
theorem apart_cons {x : Value} {vs : List Value} (h : Apart vs) (hx : ∀ g, x.ownBlock = some g → ∀ v ∈ vs, v.ownBlock ≠ some g) : Apart (x :: vs) := by
  intro i j u v g hu hv hij hg hv2
  match i, j, hu, hv with
  | 0, 0, _, _ => exact hij rfl
  | 0, j + 1, hu, hv =>
    simp at hu
    subst hu
    exact hx g hg v (List.mem_of_getElem? (by simpa using hv)) hv2
  | i + 1, 0, hu, hv =>
    simp at hv
    subst hv
    exact hx g hv2 u (List.mem_of_getElem? (by simpa using hu)) hg
  | i + 1, j + 1, hu, hv => exact h i j u v g (by simpa using hu) (by simpa using hv) (by omega) hg hv2


/-- Owned of two slices. -/
theorem own_two (B : Nat) (W : World) (k v : Value) (hB : B ≤ W.heap.size) (hk : ∃ ys, Full B W k ys) (hv : ∃ ys, Full B W v ys) (hap : ∀ g, k.ownBlock = some g → v.ownBlock ≠ some g) :
    Calls Try.prog 35 #[.slice (some ⟨W.heap.size, 0, none⟩) 2 2] (W.alloc (.cells #[k, v] 30)) fun e W' => e = .returned (.bool true) ∧ Spares (fun i => k.ownBlock = some i ∨ v.ownBlock = some i) W W' := by
  obtain ⟨ys, h1⟩ := hk
  obtain ⟨zs, h2⟩ := hv
  have hb : Below W.heap.size W (W.alloc (.cells #[k, v] 30)) := Below.alloc (Below.refl _ _) (Nat.le_refl _) _
  have hrow : (W.alloc (.cells #[k, v] 30)).ownsRow B 30 1 (.slice (some ⟨W.heap.size, 0, none⟩) 2 2) 2 [k, v] :=
    ⟨rfl, .inr ⟨W.heap.size, 2, #[k, v], rfl, hB, heap_alloc_new W _, Nat.le_refl _, by unfold maxLen; omega, rfl, rfl⟩⟩
  have hap2 : Apart [k, v] := apart_cons (apart_cons apart_nil (fun g hg u hu => by cases hu)) (fun g hg u hu e => by
    simp only [List.mem_cons, List.not_mem_nil, or_false] at hu
    subst hu
    exact hap g hg e)
  refine (owned_keep B W.heap.size 2 [k, v] _ (Nat.le_trans hB hb.size) hrow (marked_cons (h1.below hb) (marked_cons (h2.below hb) (marked_nil0 _ _))) hap2 (by simp)).mono ?_
  rintro e W' ⟨rfl, q1, q2⟩
  refine ⟨rfl, q1.os.trans hb.os, q1.tape.trans hb.tape, q1.output.trans hb.output, Nat.le_trans hb.size q1.size, fun i hi hS => (q2 i (fun u hu e => ?_)).trans (hb.block i hi)⟩
  simp only [List.mem_cons, List.not_mem_nil, or_false] at hu
  rcases hu with rfl | rfl
  · exact hS (.inl e)
  · exact hS (.inr e)

/-- Owned of one slice. -/
theorem own_one (B : Nat) (W : World) (k : Value) (hB : B ≤ W.heap.size) (hk : ∃ ys, Full B W k ys) :
    Calls Try.prog 35 #[.slice (some ⟨W.heap.size, 0, none⟩) 1 1] (W.alloc (.cells #[k] 30)) fun e W' => e = .returned (.bool true) ∧ Spares (fun i => k.ownBlock = some i) W W' := by
  obtain ⟨ys, h1⟩ := hk
  have hb : Below W.heap.size W (W.alloc (.cells #[k] 30)) := Below.alloc (Below.refl _ _) (Nat.le_refl _) _
  have hrow : (W.alloc (.cells #[k] 30)).ownsRow B 30 1 (.slice (some ⟨W.heap.size, 0, none⟩) 1 1) 1 [k] :=
    ⟨rfl, .inr ⟨W.heap.size, 1, #[k], rfl, hB, heap_alloc_new W _, Nat.le_refl _, by unfold maxLen; omega, rfl, rfl⟩⟩
  have hap2 : Apart [k] := apart_cons apart_nil (fun g hg u hu => by cases hu)
  refine (owned_keep B W.heap.size 1 [k] _ (Nat.le_trans hB hb.size) hrow (marked_cons (h1.below hb) (marked_nil0 _ _)) hap2 (by simp)).mono ?_
  rintro e W' ⟨rfl, q1, q2⟩
  refine ⟨rfl, q1.os.trans hb.os, q1.tape.trans hb.tape, q1.output.trans hb.output, Nat.le_trans hb.size q1.size, fun i hi hS => (q2 i (fun u hu e => ?_)).trans (hb.block i hi)⟩
  simp only [List.mem_cons, List.not_mem_nil, or_false] at hu
  subst hu
  exact hS e

/-- Full of what is kept. -/
theorem Full.spared {B : Nat} {w w' : World} {S : Nat → Prop} {v : Value} {xs : List Value} (h : Full B w v xs) (hk : Spares S w w') (hS : ∀ g, v.ownBlock = some g → ¬ S g) : Full B w' v xs := by
  rcases h with h | ⟨g', l, c, rfl, h1⟩
  · exact .inl h
  · exact .inr ⟨g', l, c, rfl, hk.row h1 (fun g hg => hS g (by simpa [Value.ownBlock] using hg))⟩

theorem Full.lt {B : Nat} {w : World} {v : Value} {xs : List Value} (h : Full B w v xs) (g : Nat) (hg : v.ownBlock = some g) : B ≤ g := by
  rcases h with ⟨rfl, _⟩ | ⟨g', l, c, rfl, h1⟩
  · cases hg
  · exact (h1.lt g (by simpa [Value.ownBlock] using hg)).1

theorem full_form {B : Nat} {w : World} {v : Value} (h : ∃ ys, Full B w v ys) : ∃ a l c, v = .slice a l c := by
  obtain ⟨ys, ⟨h, _⟩ | ⟨g, l, c, h, _⟩⟩ := h
  · exact ⟨_, _, _, h⟩
  · exact ⟨_, _, _, h⟩

theorem sep_two {sv : Value} {xs : List EntV} (h : Sep (sv :: xs.flatMap EntV.two)) {k : Nat} {x : EntV} (hx : xs[k]? = some x) : ∀ g, x.kv.ownBlock = some g → x.vv.ownBlock ≠ some g := by
  obtain ⟨_, h2⟩ := List.pairwise_cons.1 h
  have := (List.pairwise_flatMap.1 h2).1 x (List.mem_of_getElem? hx)
  simp only [EntV.two, List.pairwise_cons, List.mem_cons, List.not_mem_nil, or_false, forall_eq] at this
  exact this.1

theorem cell_alloc_keep {w : World} {o : Obj} {p : Addr} {v : Value} (h : w.cell? p = some v) : (w.alloc o).cell? p = some v := by
  rw [(Below.alloc (Below.refl w.heap.size w) (Nat.le_refl _) o).cell (p := p) (World.block_lt_of_cell? w _ h)]
  exact h

/-- What the loop of spoil keeps: the row's cells from the k-th entry on, and what they hold. -/
structure Spoils (B : Nat) (w : World) (sv : Value) (xs : List EntV) (k : Nat) (W : World) : Prop where
  row : ∃ L, W.ownsRow B 46 2 sv xs.length L ∧ ∀ j, k * 2 ≤ j → L[j]? = (xs.flatMap EntV.two)[j]?
  full : ∀ j x, k ≤ j → xs[j]? = some x → (∃ ys, Full B W x.kv ys) ∧ ∃ ys, Full B W x.vv ys
  below : Below B w W
  size : B ≤ W.heap.size

theorem Spoils.drewN {B : Nat} {w : World} {sv : Value} {xs : List EntV} {k : Nat} {W : World} (h : Spoils B w sv xs k W) (m : Nat) : Spoils B w sv xs k (W.drewN m) := by
  have hb := below_drewN W.heap.size W m
  obtain ⟨L, h1, h2⟩ := h.row
  exact ⟨⟨L, (Spares.of_new (S := fun _ => False) hb).row h1 (fun _ _ => id), h2⟩, fun j x hj hx => ⟨(h.full j x hj hx).1.imp fun _ q => q.below hb, (h.full j x hj hx).2.imp fun _ q => q.below hb⟩, h.below.trans (hb.mono h.size), Nat.le_trans h.size hb.size⟩

theorem Spoils.cells {B : Nat} {w W : World} {g c k : Nat} {xs : List EntV} {x : EntV} (h : Spoils B w (.slice (some ⟨g, 0, none⟩) xs.length c) xs k W) (hx : xs[k]? = some x) : W.cell? ⟨g, k * 2, none⟩ = some x.kv ∧ W.cell? ⟨g, k * 2 + 1, none⟩ = some x.vv := by
  obtain ⟨L, h1, h2⟩ := h.row
  have hk := (List.getElem?_eq_some_iff.1 hx).1
  obtain ⟨f0, f1⟩ := flat_two xs k x hx
  exact ⟨(h1.cellAt (k * 2) (by omega)).trans ((h2 _ (Nat.le_refl _)).trans f0), (h1.cellAt (k * 2 + 1) (by omega)).trans ((h2 _ (by omega)).trans f1)⟩

/-- After Owned of the k-th entry's two slices. -/
theorem spoils_own {B : Nat} {w W W' : World} {sv : Value} {xs : List EntV} {k : Nat} {x : EntV} (h : Spoils B w sv xs k W) (hs : Spares (fun i => x.kv.ownBlock = some i ∨ x.vv.ownBlock = some i) W W') (hsep : Sep (sv :: xs.flatMap EntV.two)) (hx : xs[k]? = some x) :
    (∃ L, W'.ownsRow B 46 2 sv xs.length L ∧ ∀ j, k * 2 ≤ j → L[j]? = (xs.flatMap EntV.two)[j]?) ∧ (∀ j y, k + 1 ≤ j → xs[j]? = some y → (∃ ys, Full B W' y.kv ys) ∧ ∃ ys, Full B W' y.vv ys) ∧ Below B w W' ∧ B ≤ W'.heap.size := by
  obtain ⟨hp1, hp2⟩ := List.pairwise_cons.1 hsep
  have hmem : ∀ u ∈ x.two, u ∈ xs.flatMap EntV.two := fun u hu => List.mem_flatMap.2 ⟨x, List.mem_of_getElem? hx, hu⟩
  have hfar : ∀ j y, k + 1 ≤ j → xs[j]? = some y → ∀ u ∈ y.two, ∀ g, u.ownBlock = some g → ¬ (x.kv.ownBlock = some g ∨ x.vv.ownBlock = some g) := by
    intro j y hj hy u hu g hg hor
    have hpw := (List.pairwise_flatMap.1 hp2).2
    have hjl := (List.getElem?_eq_some_iff.1 hy)
    have hkl := (List.getElem?_eq_some_iff.1 hx)
    have hrel := List.pairwise_iff_getElem.1 hpw k j hkl.1 hjl.1 (by omega)
    rw [hkl.2, hjl.2] at hrel
    rcases hor with e | e
    · exact hrel x.kv (by simp [EntV.two]) u hu g e hg
    · exact hrel x.vv (by simp [EntV.two]) u hu g e hg
  have hge : ∀ i, x.kv.ownBlock = some i ∨ x.vv.ownBlock = some i → B ≤ i := by
    rintro i (e | e)
    · obtain ⟨ys, hf⟩ := (h.full k x (Nat.le_refl _) hx).1
      exact hf.lt i e
    · obtain ⟨ys, hf⟩ := (h.full k x (Nat.le_refl _) hx).2
      exact hf.lt i e
  obtain ⟨L, h1, h2⟩ := h.row
  refine ⟨⟨L, hs.row h1 (fun g hg hor => ?_), h2⟩, fun j y hj hy => ?_, h.below.trans (hs.below hge h.size), Nat.le_trans h.size hs.size⟩
  · rcases hor with e | e
    · exact hp1 x.kv (hmem _ (by simp [EntV.two])) g hg e
    · exact hp1 x.vv (hmem _ (by simp [EntV.two])) g hg e
  · obtain ⟨⟨ys, f1⟩, zs, f2⟩ := h.full j y (by omega) hy
    exact ⟨⟨ys, f1.spared hs (hfar j y hj hy _ (by simp [EntV.two]))⟩, zs, f2.spared hs (hfar j y hj hy _ (by simp [EntV.two]))⟩

/-- After the entry itself is written over. -/
theorem spoils_store {B : Nat} {w W : World} {g c : Nat} {xs : List EntV} {k : Nat} (h1 : ∃ L, W.ownsRow B 46 2 (.slice (some ⟨g, 0, none⟩) xs.length c) xs.length L ∧ ∀ j, k * 2 ≤ j → L[j]? = (xs.flatMap EntV.two)[j]?)
    (h2 : ∀ j y, k + 1 ≤ j → xs[j]? = some y → (∃ ys, Full B W y.kv ys) ∧ ∃ ys, Full B W y.vv ys) (h3 : Below B w W) (h4 : B ≤ W.heap.size) (hsep : Sep (.slice (some ⟨g, 0, none⟩) xs.length c :: xs.flatMap EntV.two)) (hk : k < xs.length) (u v : Value) :
    W.frozen? ⟨g, k * 2, none⟩ = false ∧ (W.setCell ⟨g, k * 2, none⟩ u).frozen? ⟨g, k * 2 + 1, none⟩ = false ∧ (∃ z, W.cell? ⟨g, k * 2, none⟩ = some z) ∧ (∃ z, (W.setCell ⟨g, k * 2, none⟩ u).cell? ⟨g, k * 2 + 1, none⟩ = some z) ∧
    Spoils B w (.slice (some ⟨g, 0, none⟩) xs.length c) xs (k + 1) ((W.setCell ⟨g, k * 2, none⟩ u).setCell ⟨g, k * 2 + 1, none⟩ v) := by
  obtain ⟨L, o0, hL⟩ := h1
  obtain ⟨o1, g1⟩ := o0.stored (k * 2) u
  obtain ⟨o2, g2⟩ := o1.stored (k * 2 + 1) v
  have hgB : B ≤ g := (o0.lt g rfl).1
  have sp : Spares (fun i => i = g) W ((W.setCell ⟨g, k * 2, none⟩ u).setCell ⟨g, k * 2 + 1, none⟩ v) := spares_set2 W g _ _ u v
  obtain ⟨hp1, _⟩ := List.pairwise_cons.1 hsep
  have hlen : L.length = xs.length * 2 := o0.1
  refine ⟨o0.frozenAt _, o1.frozenAt _, ⟨_, (o0.cellAt (k * 2) (by omega)).trans (List.getElem?_eq_getElem (by omega))⟩, ⟨_, (o1.cellAt (k * 2 + 1) (by omega)).trans (List.getElem?_eq_getElem (by rw [List.length_set]; omega))⟩, ⟨_, o2, fun j hj => ?_⟩, fun j y hj hy => ?_, h3.trans (sp.below (fun i hi => by omega) h4), Nat.le_trans h4 sp.size⟩
  · rw [List.getElem?_set_ne (by omega), List.getElem?_set_ne (by omega)]
    exact hL j (by omega)
  · have hm : ∀ u ∈ y.two, ∀ q, u.ownBlock = some q → ¬ q = g := fun u hu q hq e => hp1 u (List.mem_flatMap.2 ⟨y, List.mem_of_getElem? hy, hu⟩) g rfl (by rw [hq, e])
    obtain ⟨⟨ys, f1⟩, zs, f2⟩ := h2 j y hj hy
    exact ⟨⟨ys, f1.spared sp (hm _ (by simp [EntV.two]))⟩, zs, f2.spared sp (hm _ (by simp [EntV.two]))⟩

set_option maxHeartbeats 4000000 in
theorem spoil_any (B : Nat) (sv : Value) (xs : List EntV) (w : World) (hB : B ≤ w.heap.size) (hR : Rowed B w sv xs) :
    Calls Try.prog 16 #[sv] w fun e w' => e = .returned (.tuple #[]) ∧ Below B w w' := by
  obtain ⟨⟨a, c, rfl⟩, _⟩ := row_form2 hR.row
  have hx1 : xs.length ≤ 9223372036854775807 := by
    rcases hR.row.2 with ⟨_, h0⟩ | ⟨_, _, _, _, _, _, h1, h2, _⟩
    · omega
    · unfold maxLen at h2; omega
  have H0 : Hid (Spoils B w (.slice a xs.length c) xs 0 w) := hid ⟨⟨_, hR.row, fun _ _ => rfl⟩, fun j x _ hx => ⟨full_of_owns (hR.cps x (List.mem_of_getElem? hx)).1, full_of_owns (hR.cps x (List.mem_of_getElem? hx)).2⟩, Below.refl _ _, hB⟩
  have HSEP := hid hR.sep
  clear hR hB
  go_enter Try.func16, Try.ntmps16
  go_wp2_with fail
  go_loopw [2] (fun i wr => ∃ k : Nat, k ≤ xs.length ∧ i = .int .i64 k ∧ Hid (Spoils B w (.slice a xs.length c) xs k wr)) (fun i _ => xs.length - (intOf i).toNat)
  case atStart => exact ⟨0, Nat.zero_le _, rfl, H0⟩
  case round =>
    obtain ⟨k, hk, rfl, HI⟩ := hrel
    by_cases hlt : k < xs.length
    · have hki : (k : Int) < (xs.length : Int) := by omega
      have hk0 : (0 : Int) ≤ (k : Int) := by omega
      obtain ⟨g, rfl⟩ : ∃ g, a = some ⟨g, 0, none⟩ := by
        obtain ⟨L, h1, _⟩ := HI.out.row
        obtain ⟨g, cap, ea, _⟩ := h1.form (by omega)
        simp only [Value.slice.injEq] at ea
        exact ⟨g, ea.1⟩
      obtain ⟨⟨kv, vv, kb, vb⟩, hxk⟩ : ∃ x, xs[k]? = some x := ⟨_, List.getElem?_eq_getElem hlt⟩
      obtain ⟨q1, q2⟩ := HI.out.full k _ (Nat.le_refl _) hxk
      obtain ⟨ka, kl, kc, rfl⟩ : ∃ a l c, kv = .slice a l c := full_form q1
      obtain ⟨va, vl, vc, rfl⟩ : ∃ a l c, vv = .slice a l c := full_form q2
      obtain ⟨c0, c1⟩ := HI.out.cells hxk
      have HOW := own_two B wr.drew (.slice ka kl kc) (.slice va vl vc) HI.out.size (q1.imp fun _ h => h.below (below_drewN _ _ 1)) (q2.imp fun _ h => h.below (below_drewN _ _ 1)) (sep_two HSEP.out hxk)
      have HC := hid (show wr.drew.cell? ⟨g, k * 2, none⟩ = some (.slice ka kl kc) ∧ wr.drew.cell? ⟨g, k * 2 + 1, none⟩ = some (.slice va vl vc) from ⟨c0, c1⟩)
      have HSP := hid (fun (W' : World) (hs : Spares (fun i => (Value.slice ka kl kc).ownBlock = some i ∨ (Value.slice va vl vc).ownBlock = some i) wr.drew W') => spoils_own (HI.out.drewN 1) hs HSEP.out hxk)
      have HCK : Hid (∀ W', Spares (fun i => (Value.slice ka kl kc).ownBlock = some i ∨ (Value.slice va vl vc).ownBlock = some i) wr.drew W' → W'.cell? ⟨g, k * 2, none⟩ = some (.slice ka kl kc) ∧ W'.cell? ⟨g, k * 2 + 1, none⟩ = some (.slice va vl vc)) := hid (fun W' hs => by
        obtain ⟨L, h1, h2⟩ := (HSP.out W' hs).1
        obtain ⟨f0, f1⟩ := flat_two xs k _ hxk
        exact ⟨(h1.cellAt (k * 2) (by omega)).trans ((h2 _ (Nat.le_refl _)).trans f0), (h1.cellAt (k * 2 + 1) (by omega)).trans ((h2 _ (by omega)).trans f1)⟩)
      have HK := hid hlt
      clear q1 q2 hxk
      go_wp2_with fail
      go_region_held3 (fun w' => w'.cell? ⟨g, k * 2, none⟩ = some (.slice ka kl kc) ∧ w'.cell? ⟨g, k * 2 + 1, none⟩ = some (.slice va vl vc))
        (first | exact HC.out | assumption | exact ⟨cell_alloc_keep HC.out.1, cell_alloc_keep HC.out.2⟩)
        ((go_at_call 35; refine HOW.mono ?_; rintro e w3 ⟨rfl, hs3⟩; have hS3 := HCK.out _ hs3))
      obtain ⟨f1, f2, ⟨z1, k1⟩, ⟨z2, k2⟩, hsp⟩ := spoils_store (HSP.out _ hs3).1 (HSP.out _ hs3).2.1 (HSP.out _ hs3).2.2.1 (HSP.out _ hs3).2.2.2 HSEP.out HK.out (.slice none 0 0) (.slice none 0 0)
      have HF := hid hsp
      clear hsp hS3 hs3 HSP HCK HOW HC c0 c1
      go_wp2
      go_roundw
      case rel => exact ⟨k + 1, HK.out, by go_num, HF⟩
      case measure => have := HK.out; simp [intOf]; omega
    · have hki : (xs.length : Int) ≤ (k : Int) := by omega
      go_wp2
      exact bodyPost_end (v := .tuple #[]) (by simp [results, Try.func16]) rfl ⟨rfl, HI.out.below⟩
end Go.Proofs.Ytjfipejfejmlaaa
