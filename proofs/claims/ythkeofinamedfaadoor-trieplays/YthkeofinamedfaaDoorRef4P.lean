/- Contract of the document's own Path. -/
import Derived.Test.YthkeofinamedfaaDoorRef4H
import Derived.Test.YthkeofinamedfaaDoorDeleteF
namespace Go.Proofs.YthkeofinamedfaaDoor
open Go.RowKit Go.Shelf
set_option linter.unusedVariables false
set_option linter.unusedSimpArgs false
set_option maxRecDepth 20000

theorem EntsS.mono {S S' : Nat → Prop} {w : World} {sv : Value} {xs : List EntV} (h : EntsS S w sv xs) (hS : ∀ i, S i → S' i) : EntsS S' w sv xs :=
  ⟨h.ents, h.row.mono hS, fun x hx => ⟨(h.all x hx).1.mono hS, (h.all x hx).2.mono hS⟩, h.form⟩

def lenOf : Value → Nat
  | .slice _ n _ => n
  | _ => 0

/-- What a walk to a key has in hand. -/
structure XPath (w : World) (T : Tri) (key : List UInt8) (W : World) (lv : Value) (ys : List EntV) (t : Tri) (pre : List Stp) (sv : Value) : Prop where
  out : W.heap[w.heap.size]? = some (.cells #[.bool false, .slice none 0 0, .slice none 0 0, .slice none 0 0] 59 (0, 0))
  got : W.heap[w.heap.size + 1]? = some (.cells #[.bool false, .slice none 0 0, .slice none 0 0, sv] 59 (0, 0))
  row : W.ownsRow (w.heap.size + 2) 62 34 sv pre.length (pre.flatMap stepC)
  ents : EntsS (fun i => i ≠ w.heap.size + 1 ∧ sv.ownBlock ≠ some i ∧ i < W.heap.size) W lv ys
  same : ys.map EntV.ent = t.ents
  wf : t.WF
  steps : pre ++ t.steps key = T.steps key
  near : t.near key = T.near key
  below : Below w.heap.size w W
  big : w.heap.size + 2 ≤ W.heap.size

theorem XPath.new {w : World} {T : Tri} {key : List UInt8} {W W' : World} {lv : Value} {ys : List EntV} {t : Tri} {pre : List Stp} {sv : Value} (h : XPath w T key W lv ys t pre sv) (hb : Below W.heap.size W W') : XPath w T key W' lv ys t pre sv :=
  ⟨row_kept h.out hb, row_kept h.got hb, (Spares.of_new (S := fun _ => False) hb).row h.row (fun _ _ => id), (h.ents.keep (R := fun _ => False) (Spares.of_new hb) (fun _ _ => id)).mono (fun i hi => ⟨hi.1, hi.2.1, Nat.lt_of_lt_of_le hi.2.2 hb.size⟩), h.same, h.wf, h.steps, h.near, h.below.trans (hb.mono h.below.size), Nat.le_trans h.big hb.size⟩

/-- One step more is written down. -/
theorem xpath_step {w : World} {T : Tri} {key : List UInt8} {W W2 W3 : World} {lv : Value} {ys : List EntV} {p : Nat} {l r : Tri} {pre : List Stp} {sv : Value} {g cap : Nat} (hI : XPath w T key W lv ys (.fork p l r) pre sv) (s : Stp)
    (hb : Below W.heap.size W W2) (hg : W2.grownBy W3 sv.ownBlock)
    (hown : W3.ownsRow (w.heap.size + 2) 62 34 (.slice (some ⟨g, 0, none⟩) (pre.length + 1) cap) (pre.length + 1) (pre.flatMap stepC ++ stepC s)) (hat : sv.ownBlock = some g ∨ g = W2.heap.size) :
    let W4 := W3.setCell ⟨w.heap.size + 1, 3, none⟩ (.slice (some ⟨g, 0, none⟩) (pre.length + 1) cap)
    W4.heap[w.heap.size]? = some (.cells #[.bool false, .slice none 0 0, .slice none 0 0, .slice none 0 0] 59 (0, 0)) ∧
    W4.heap[w.heap.size + 1]? = some (.cells #[.bool false, .slice none 0 0, .slice none 0 0, .slice (some ⟨g, 0, none⟩) (pre.length + 1) cap] 59 (0, 0)) ∧
    W4.ownsRow (w.heap.size + 2) 62 34 (.slice (some ⟨g, 0, none⟩) (pre.length + 1) cap) (pre ++ [s]).length ((pre ++ [s]).flatMap stepC) ∧
    EntsS (fun i => i ≠ w.heap.size + 1 ∧ (Value.slice (some ⟨g, 0, none⟩) (pre.length + 1) cap).ownBlock ≠ some i ∧ i < W4.heap.size) W4 lv ys ∧ Below w.heap.size w W4 ∧ w.heap.size + 2 ≤ W4.heap.size := by
  have hbig := hI.big
  have hlow : ∀ i, sv.ownBlock = some i → w.heap.size + 2 ≤ i ∧ i < W.heap.size := fun i hi => hI.row.lt i hi
  have spg : Spares (fun i => sv.ownBlock = some i) W W3 := (Spares.of_new hb).andThen (Spares.of_grown (S := fun i => sv.ownBlock = some i) hg (fun k e => e)) (fun i hi => .inl hi)
  have sp : Spares (fun i => i = w.heap.size + 1 ∨ sv.ownBlock = some i) W (W3.setCell ⟨w.heap.size + 1, 3, none⟩ (.slice (some ⟨g, 0, none⟩) (pre.length + 1) cap)) :=
    (spg.mono fun i hi => .inr hi).andThen (spares_set W3 ⟨w.heap.size + 1, 3, none⟩ _) (fun i hi => .inl (.inl hi))
  have hgot3 := (spg.block (w.heap.size + 1) (by omega) (fun e => by have := (hlow _ e).1; omega)).trans hI.got
  have hgge : w.heap.size + 2 ≤ g := by
    rcases hat with h | h
    · exact (hlow g h).1
    · have := hb.size; omega
  have hgl := (hown.lt g rfl).2
  have hz : (W3.setCell ⟨w.heap.size + 1, 3, none⟩ (.slice (some ⟨g, 0, none⟩) (pre.length + 1) cap)).heap.size = W3.heap.size := by simp [World.setCell]
  have hz3 := spg.size
  refine ⟨(sp.block _ (by omega) ?_).trans hI.out, heap_setCell_same _ _ _ _ _ _ hgot3, ?_, ?_, hI.below.trans (sp.below ?_ hI.below.size), Nat.le_trans hbig sp.size⟩
  · rintro (h | h)
    · omega
    · have := (hlow _ h).1; omega
  · simp only [List.length_append, List.length_cons, List.length_nil, List.flatMap_append, List.flatMap_cons, List.flatMap_nil, List.append_nil, Nat.zero_add]
    exact (spares_set W3 ⟨w.heap.size + 1, 3, none⟩ _).row hown (fun i hi e => by
      have : g = i := by simpa [Value.ownBlock] using hi
      have e' : i = w.heap.size + 1 := e
      omega)
  · refine (hI.ents.keep sp (fun i hi h => ?_)).mono (fun i hi => ⟨hi.1, fun e => ?_, ?_⟩)
    · rcases h with h | h
      · exact hi.1 h
      · exact hi.2.1 h
    · have hgi : g = i := by simpa [Value.ownBlock] using e
      rcases hat with h | h
      · exact hi.2.1 (by rw [← hgi]; exact h)
      · have h1 := hi.2.2; have h2 := hb.size; omega
    · rw [hz]; have := hi.2.2; omega
  · rintro i (rfl | hi)
    · omega
    · have := (hlow i hi).1; omega

set_option maxHeartbeats 8000000 in
theorem xpath_none (xb : Nat) (a : Option Addr) (c : Nat) (kv : Value) (w : World) (hx : w.heap[xb]? = some (.cells #[.slice a 0 c] 35 (0, 0))) (hk : ∃ a n c, kv = .slice a n c) :
    Calls Tryd.prog 35 #[.pointer (some ⟨xb, 0, none⟩), kv] w fun e w' => e = .returned (.agg #[.bool true, .slice none 0 0, .slice none 0 0, .slice none 0 0]) ∧ Below w.heap.size w w' := by
  obtain ⟨a1, n1, c1, rfl⟩ := hk
  have hbn : Below w.heap.size w (w.alloc (.cells #[.bool false, .slice none 0 0, .slice none 0 0, .slice none 0 0] 59)) := (Below.refl _ _).alloc (Nat.le_refl _) _
  have hxn : (w.alloc (.cells #[.bool false, .slice none 0 0, .slice none 0 0, .slice none 0 0] 59)).cell? ⟨xb, 0, none⟩ = some (.slice a 0 c) := by rw [cell_of_row _ _ _ _ _ _ (row_kept hx hbn)]; rfl
  have hnew := World.alloc_heap_new w (.cells #[.bool false, .slice none 0 0, .slice none 0 0, .slice none 0 0] 59)
  go_enter Tryd.func35, Tryd.ntmps35
  go_wp2
  refine bodyPost_ret (v := .agg #[.bool true, .slice none 0 0, .slice none 0 0, .slice none 0 0]) (results_cell_row (p := 4) (ty := 59) rfl _ _ w.heap.size 59 _ (0, 0) _ rfl (World.alloc_heap_new w (.cells #[.bool true, .slice none 0 0, .slice none 0 0, .slice none 0 0] 59)) Tryd.underlying59 rfl Tryd.infoProof) rfl ⟨rfl, (Below.refl _ _).alloc (Nat.le_refl _) _⟩

theorem tri_len_fork (p : Nat) (l r : Tri) : 2 ≤ (Tri.fork p l r).ents.length := by
  have := Tri.ents_pos l
  have := Tri.ents_pos r
  simp [Tri.ents]; omega

set_option maxHeartbeats 8000000 in
theorem xpath_some (S : Nat → Prop) (xb : Nat) (xs : List EntV) (T : Tri) (kv : Value) (key : List UInt8) (w : World) (h : XS S w xb xs) (hT : T.WF) (hx' : xs.map EntV.ent = T.ents) (hk : Says w kv key) (hkl : key.length ≤ 140737488355328) (hn : xs.length < 1000000) :
    Calls Tryd.prog 35 #[.pointer (some ⟨xb, 0, none⟩), kv] w fun e w' => ∃ ek ev sv, e = .returned (.agg #[.bool false, ek, ev, sv]) ∧ Copy w.heap.size w' ek (T.near key).1 ∧ Copy w.heap.size w' ev (T.near key).2 ∧
      w'.ownsRow w.heap.size 62 34 sv (T.steps key).length ((T.steps key).flatMap stepC) ∧ Below w.heap.size w w' := by
  obtain ⟨⟨sv0, hx, hE⟩, hxb, hlt⟩ := h
  obtain ⟨a1, c1, rfl, _⟩ := id hk
  obtain ⟨a, c, rfl, hc1, hc2, _⟩ := id hE.ents
  unfold maxLen at hc2
  have hxl : 1 ≤ xs.length := by have h1 := congrArg List.length hx'; have h2 := Tri.ents_pos T; simp at h1; omega
  have e0 : ((xs.length : Int) == 0) = false := by rw [beq_eq_false_iff_ne]; omega
  have hn1 : (1 : Int) ≤ (xs.length : Int) := by omega
  obtain ⟨c0, c1', hbn, hzn⟩ := alloc2 w (.cells #[.bool false, .slice none 0 0, .slice none 0 0, .slice none 0 0] 59) (.cells #[.bool false, .slice none 0 0, .slice none 0 0, .slice none 0 0] 59)
  have hb1 : Below w.heap.size w (w.alloc (.cells #[.bool false, .slice none 0 0, .slice none 0 0, .slice none 0 0] 59)) := (Below.refl _ _).alloc (Nat.le_refl _) _
  have q1 : (w.alloc (.cells #[.bool false, .slice none 0 0, .slice none 0 0, .slice none 0 0] 59)).cell? ⟨xb, 0, none⟩ = some (.slice a xs.length c) := by rw [cell_of_row _ _ _ _ _ _ (row_kept hx hb1)]; rfl
  have q2 : ((w.alloc (.cells #[.bool false, .slice none 0 0, .slice none 0 0, .slice none 0 0] 59)).alloc (.cells #[.bool false, .slice none 0 0, .slice none 0 0, .slice none 0 0] 59)).cell? ⟨xb, 0, none⟩ = some (.slice a xs.length c) := by rw [cell_of_row _ _ _ _ _ _ (row_kept hx hbn)]; rfl
  have hI0 : XPath w T key ((w.alloc (.cells #[.bool false, .slice none 0 0, .slice none 0 0, .slice none 0 0] 59)).alloc (.cells #[.bool false, .slice none 0 0, .slice none 0 0, .slice none 0 0] 59)) (.slice a xs.length c) xs T [] (.slice none 0 0) :=
    ⟨c0, c1', World.ownsRow_nil _ _ _ _, (hE.keep (R := fun _ => False) (Spares.of_new hbn) (fun _ _ => id)).mono (fun i hi => ⟨by have := hlt i hi; omega, fun e => (by cases e), by have := hlt i hi; rw [hzn]; omega⟩), hx', hT, rfl, rfl, hbn, by rw [hzn]; omega⟩
  have HI0 := hid hI0
  have HK : Hid (∀ W, Below w.heap.size w W → Says W (.slice a1 key.length c1) key) := hid (fun W hW => hk.new hW)
  clear hI0 c0 c1' hE hx hxb hlt hk hbn hb1 hzn
  go_enter Tryd.func35, Tryd.ntmps35
  go_wp2_with fail
  generalize (w.alloc (.cells #[.bool false, .slice none 0 0, .slice none 0 0, .slice none 0 0] 59)).alloc (.cells #[.bool false, .slice none 0 0, .slice none 0 0, .slice none 0 0] 59) = w2 at *
  go_loopw [6] (fun lv wr => ∃ (ys : List EntV) (t : Tri) (pre : List Stp) (sv : Value), (∃ la lc, lv = .slice la ys.length lc) ∧ ys.length ≤ xs.length ∧ Hid (XPath w T key wr lv ys t pre sv)) (fun lv _ => lenOf lv)
  case atStart => exact ⟨xs, T, [], .slice none 0 0, ⟨_, _, rfl⟩, Nat.le_refl _, HI0⟩
  case round =>
    clear HI0 q1 q2
    obtain ⟨ys, t, pre, sv, ⟨la, lc, rfl⟩, hyl, HI⟩ := hrel
    obtain ⟨_, _, e, hl1, hl2, _⟩ := id HI.out.ents.ents
    simp only [Value.slice.injEq, true_and] at e
    obtain ⟨rfl, rfl⟩ := e
    unfold maxLen at hl2
    cases t with
    | leaf k0 v0 =>
      have hy1 : ys.length = 1 := by have := congrArg List.length HI.out.same; simpa [Tri.ents] using this
      obtain ⟨b, off, ka, kc, va, vc, kb, vb, rfl, hb, hx0, c0, c1, s1, s2⟩ := HI.out.ents.ents.at 0 (by omega)
      have e1 := ent_at HI.out.same hx0
      simp only [Tri.ents, List.getElem?_cons_zero, Option.some.injEq, Prod.mk.injEq] at e1
      obtain ⟨rfl, rfl⟩ := e1
      rw [hy1] at hl1 ⊢
      have hsh : Tri.short (k0, v0) := HI.out.wf
      have HNR : Hid (T.near key = (k0, v0)) := hid HI.out.near.symm
      have HSP : Hid (pre = T.steps key) := hid (by have := HI.out.steps; simpa [Tri.steps] using this)
      have q1 : wr.drew.cell? ⟨b, off, none⟩ = some (.slice ka k0.length kc) := by show wr.cell? _ = _; simpa using c0
      have q2 : wr.drew.cell? ⟨b, off + 1, none⟩ = some (.slice va v0.length vc) := by show wr.cell? _ = _; simpa using c1
      have hS0 : wr.drew.cell? ⟨b, off, none⟩ = some (.slice ka k0.length kc) ∧ wr.drew.cell? ⟨b, off + 1, none⟩ = some (.slice va v0.length vc) := ⟨q1, q2⟩
      have hbd : Below wr.heap.size wr wr.drew := below_drewN _ wr 1
      have HC1 := copied_any (.slice ka k0.length kc) k0 wr.drew (Says.new s1 hbd) (by have := hsh.1; simp at this; omega)
      have HV := hid (Says.new s2 hbd)
      have hgl := block_lt HI.out.got
      have hol := block_lt HI.out.out
      have hbb : b ≠ w.heap.size + 1 := by
        have := HI.out.ents.row b rfl
        exact this.1
      obtain ⟨sa, sn, sc, rfl⟩ : ∃ a n c, sv = .slice a n c := by
        rcases HI.out.row.2 with ⟨rfl, _⟩ | ⟨g, cap, cur, rfl, _⟩
        · exact ⟨none, 0, 0, rfl⟩
        · exact ⟨_, _, _, rfl⟩
      have hbW : b < wr.heap.size := hb
      clear c0 c1 s1 s2 hx0 q1 q2
      go_wp2_with fail
      go_region_held3 (fun w' => w'.cell? ⟨b, off, none⟩ = some (.slice ka k0.length kc) ∧ w'.cell? ⟨b, off + 1, none⟩ = some (.slice va v0.length vc))
        (first | assumption | exact ⟨(World.cell?_of_block (by rw [Below.heap_setCell _ _ _ _ hbb, Below.heap_setCell _ _ _ _ hbb])).trans hS4.1, (World.cell?_of_block (by rw [Below.heap_setCell _ _ _ _ hbb, Below.heap_setCell _ _ _ _ hbb])).trans hS4.2⟩)
        ((go_at_call 57; first
          | (refine HC1.mono ?_; clear HC1; rintro e w3 ⟨kv', rfl, hk3, hb3⟩; obtain ⟨a3, c3, rfl⟩ := hk3.form
             have hS3 : w3.cell? ⟨b, off, none⟩ = some (.slice ka k0.length kc) ∧ w3.cell? ⟨b, off + 1, none⟩ = some (.slice va v0.length vc) := ⟨(hb3.cell (p := ⟨b, off, none⟩) hbW).trans hS0.1, (hb3.cell (p := ⟨b, off + 1, none⟩) hbW).trans hS0.2⟩
             have HC2 := copied_any (.slice va v0.length vc) v0 w3 (HV.out.new hb3) (by have := hsh.2; simp at this; omega)
             have HK3 := hid hk3
             have HB3 := hid (hbd.trans hb3)
             clear hk3 hb3)
          | (refine HC2.mono ?_; clear HC2; rintro e w4 ⟨vv', rfl, hv4, hb4⟩; obtain ⟨a4, c4, rfl⟩ := hv4.form
             have hz3 := HB3.out.size
             have hS4 : w4.cell? ⟨b, off, none⟩ = some (.slice ka k0.length kc) ∧ w4.cell? ⟨b, off + 1, none⟩ = some (.slice va v0.length vc) := ⟨(hb4.cell (p := ⟨b, off, none⟩) (by show b < _; omega)).trans hS3.1, (hb4.cell (p := ⟨b, off + 1, none⟩) (by show b < _; omega)).trans hS3.2⟩
             have HB4 := hid (HB3.out.trans (hb4.mono HB3.out.size))
             have hg4 := row_kept HI.out.got HB4.out
             have r1 : w4.cell? ⟨w.heap.size + 1, 1, none⟩ = some (.slice none 0 0) := by rw [cell_of_row _ _ _ _ _ _ hg4]; rfl
             have r2 : w4.cell? ⟨w.heap.size + 1, 2, none⟩ = some (.slice none 0 0) := by rw [cell_of_row _ _ _ _ _ _ hg4]; rfl
             have f1 : ∀ j, w4.frozen? ⟨w.heap.size + 1, j, none⟩ = false := fun j => by simp [World.frozen?, hg4]
             have HK4 := hid (HK3.out.new hb4)
             have HV4 := hid hv4
             have HG4 := hid hg4
             have HO4 := hid (row_kept HI.out.out HB4.out)
             have HR4 := hid ((Spares.of_new (S := fun _ => False) HB4.out).row HI.out.row (fun _ _ => id))
             clear hv4 hb4 hg4)))
      generalize hW5 : (w4.setCell _ _).setCell _ _ = W5
      have sp5 : Spares (fun i => i = w.heap.size + 1) w4 W5 := by rw [← hW5]; exact spares_set2 w4 (w.heap.size + 1) 1 2 _ _
      have hg5 : W5.heap[w.heap.size + 1]? = some (.cells #[.bool false, .slice a3 k0.length c3, .slice a4 v0.length c4, .slice sa sn sc] 59 (0, 0)) := by rw [← hW5]; exact heap_setCell_same _ _ 2 _ _ _ (heap_setCell_same _ _ 1 _ _ _ HG4.out)
      have ho5 : W5.heap[w.heap.size]? = some (.cells #[.bool false, .slice none 0 0, .slice none 0 0, .slice none 0 0] 59 (0, 0)) := (sp5.block _ (by have := HB4.out.size; omega) (by omega)).trans HO4.out
      have hbig := HI.out.big
      have HK5 : Hid (Copy (w.heap.size + 2) W5 (.slice a3 k0.length c3) k0) := hid (owns_lower (sp5.row HK4.out (fun g hg e => by have h1 : wr.heap.size ≤ g := (HK4.out.lt g hg).1; have e' : g = w.heap.size + 1 := e; omega)) (fun g hg => by have h1 : wr.heap.size ≤ g := (HK4.out.lt g hg).1; omega))
      have HV5 : Hid (Copy (w.heap.size + 2) W5 (.slice a4 v0.length c4) v0) := hid (owns_lower (sp5.row HV4.out (fun g hg e => by have h1 := (HV4.out.lt g hg).1; have e' : g = w.heap.size + 1 := e; omega)) (fun g hg => by have h1 := (HV4.out.lt g hg).1; omega))
      have HR5 : Hid (W5.ownsRow (w.heap.size + 2) 62 34 (.slice sa sn sc) pre.length (pre.flatMap stepC)) := hid (sp5.row HR4.out (fun g hg e => by have h1 := (HR4.out.lt g hg).1; have e' : g = w.heap.size + 1 := e; omega))
      have HB5 : Hid (Below w.heap.size w W5) := hid ((HI.out.below.trans (HB4.out.mono HI.out.below.size)).trans (sp5.below (fun i hi => by omega) (by have := HB4.out.size; omega)))
      have g0 : W5.cell? ⟨w.heap.size + 1, 0, none⟩ = some (.bool false) := by rw [cell_of_row _ _ _ _ _ _ hg5]; rfl
      have g1 : W5.cell? ⟨w.heap.size + 1, 1, none⟩ = some (.slice a3 k0.length c3) := by rw [cell_of_row _ _ _ _ _ _ hg5]; rfl
      have g2 : W5.cell? ⟨w.heap.size + 1, 2, none⟩ = some (.slice a4 v0.length c4) := by rw [cell_of_row _ _ _ _ _ _ hg5]; rfl
      have g3 : W5.cell? ⟨w.heap.size + 1, 3, none⟩ = some (.slice sa sn sc) := by rw [cell_of_row _ _ _ _ _ _ hg5]; rfl
      have u0 : W5.cell? ⟨w.heap.size, 0, none⟩ = some (.bool false) := by rw [cell_of_row _ _ _ _ _ _ ho5]; rfl
      have u1 : W5.cell? ⟨w.heap.size, 1, none⟩ = some (.slice none 0 0) := by rw [cell_of_row _ _ _ _ _ _ ho5]; rfl
      have u2 : W5.cell? ⟨w.heap.size, 2, none⟩ = some (.slice none 0 0) := by rw [cell_of_row _ _ _ _ _ _ ho5]; rfl
      have u3 : W5.cell? ⟨w.heap.size, 3, none⟩ = some (.slice none 0 0) := by rw [cell_of_row _ _ _ _ _ _ ho5]; rfl
      have uf : ∀ j, W5.frozen? ⟨w.heap.size, j, none⟩ = false := fun j => by simp [World.frozen?, ho5]
      have HO5 := hid ho5
      clear hW5 sp5 hg5 ho5 HK4 HV4 HG4 HO4 HR4 hS0 hS3 hS4 r1 r2 f1
      go_wp2
      generalize hW9 : (((W5.setCell _ _).setCell _ _).setCell _ _).setCell _ _ = W9
      have sp9 : Spares (fun i => i = w.heap.size) W5 W9 := by
        rw [← hW9]
        exact ((spares_set2 W5 w.heap.size 0 1 _ _).andThen (spares_set2 _ w.heap.size 2 3 _ _) (fun i hi => .inl hi))
      have hh9 : W9.heap[w.heap.size]? = some (.cells #[.bool false, .slice a3 k0.length c3, .slice a4 v0.length c4, .slice sa sn sc] 59 (0, 0)) := by
        rw [← hW9]
        exact heap_setCell_same _ _ 3 _ _ _ (heap_setCell_same _ _ 2 _ _ _ (heap_setCell_same _ _ 1 _ _ _ (heap_setCell_same _ _ 0 _ _ _ HO5.out)))
      refine bodyPost_ret (v := .agg #[.bool false, .slice a3 k0.length c3, .slice a4 v0.length c4, .slice sa sn sc]) (results_cell_row (p := 4) (ty := 59) rfl _ _ w.heap.size 59 _ (0, 0) _ rfl hh9 Tryd.underlying59 rfl Tryd.infoProof) rfl ⟨_, _, _, rfl, ?_, ?_, ?_, ?_⟩
      · rw [HNR.out]
        exact owns_lower (sp9.row HK5.out (fun g hg e => by have h1 := (HK5.out.lt g hg).1; have e' : g = w.heap.size := e; omega)) (fun g hg => by have h1 := (HK5.out.lt g hg).1; omega)
      · rw [HNR.out]
        exact owns_lower (sp9.row HV5.out (fun g hg e => by have h1 := (HV5.out.lt g hg).1; have e' : g = w.heap.size := e; omega)) (fun g hg => by have h1 := (HV5.out.lt g hg).1; omega)
      · rw [← HSP.out]
        exact owns_lower (sp9.row HR5.out (fun g hg e => by have h1 := (HR5.out.lt g hg).1; have e' : g = w.heap.size := e; omega)) (fun g hg => by have h1 := (HR5.out.lt g hg).1; omega)
      · exact HB5.out.trans (sp9.below (fun i hi => by omega) HB5.out.size)
    | fork p l r =>
      have hy2 : 2 ≤ ys.length := by have h1 := congrArg List.length HI.out.same; have h2 := tri_len_fork p l r; simp at h1; omega
      have hyi : (1 : Int) < (ys.length : Int) := by omega
      have hp := Tri.place_bound p _ _ HI.out.wf
      have HFK := fork_any p l r HI.out.wf _ ys wr _ HI.out.ents.ents HI.out.same
      have HBT := xbit_any _ _ key p wr (HK.out wr HI.out.below) hkl (by omega) (by omega)
      rw [bitI_nat] at HBT
      have hks : ∀ x ∈ ys, x.k.length ≤ 140737488355328 := fun x hm => by have := (Tri.short_of _ HI.out.wf x.ent (by rw [← HI.out.same]; exact List.mem_map_of_mem hm)).1; simp [EntV.ent] at this; omega
      have hS0 : (fun W' : World => W'.cell? ⟨w.heap.size + 1, 3, none⟩ = some sv) wr.drew := by show wr.cell? _ = _; rw [cell_of_row _ _ _ _ _ _ HI.out.got]; rfl
      have hsvf : ∃ a n c, sv = .slice a n c := by
        rcases HI.out.row.2 with ⟨rfl, _⟩ | ⟨g, cap, cur, rfl, _⟩
        · exact ⟨none, 0, 0, rfl⟩
        · exact ⟨_, _, _, rfl⟩
      go_wp2_with (first
        | (go_at_call 58; refine HFK.mono ?_; clear HFK; rintro e w'' ⟨rfl, e''⟩; rw [e'']; clear e'' w'')
        | (go_at_call 21; refine HBT.mono ?_; clear HBT; rintro e w'' ⟨rfl, e''⟩; rw [e'']; clear e'' w''))
      refine last_region (fun W' : World => W'.cell? ⟨w.heap.size + 1, 3, none⟩ = some sv) 14 (by kernel_rfl) ?_
      refine wpAnyE_take (i := 0) (v := ?_) rfl (by kernel_rfl) (by kernel_rfl) (by kernel_rfl) (by kernel_rfl) (by kernel_rfl) (fun _ _ _ h => h) (Or.inl ⟨by rfl, ?_⟩) (by assumption) ?_; rotate_left; (focus (intro w hSw; (try dsimp only at hSw); (try obtain ⟨hSw1, hSw2, hSw3⟩ := hSw); go_simp <;> with_reducible rfl)); (try simp only [Act.put, List.getElem_toArray, List.getElem_cons_zero, List.getElem_cons_succ, List.setIfInBounds_toArray, List.set_cons_zero, List.set_cons_succ])
      refine wpAnyE_take (i := 1) (v := ?_) rfl (by kernel_rfl) (by kernel_rfl) (by kernel_rfl) (by kernel_rfl) (by kernel_rfl) (fun _ _ _ h => h) (Or.inl ⟨by rfl, ?_⟩) (by assumption) ?_; rotate_left; (focus (intro w hSw; (try dsimp only at hSw); (try obtain ⟨hSw1, hSw2, hSw3⟩ := hSw); go_simp <;> with_reducible rfl)); (try simp only [Act.put, List.getElem_toArray, List.getElem_cons_zero, List.getElem_cons_succ, List.setIfInBounds_toArray, List.set_cons_zero, List.set_cons_succ])
      refine wpAnyE_take (i := 2) (v := ?_) rfl (by kernel_rfl) (by kernel_rfl) (by kernel_rfl) (by kernel_rfl) (by kernel_rfl) (fun _ _ _ h => h) (Or.inl ⟨by rfl, ?_⟩) (by assumption) ?_; rotate_left; (focus (intro w hSw; (try dsimp only at hSw); (try obtain ⟨hSw1, hSw2, hSw3⟩ := hSw); go_simp <;> with_reducible rfl)); (try simp only [Act.put, List.getElem_toArray, List.getElem_cons_zero, List.getElem_cons_succ, List.setIfInBounds_toArray, List.set_cons_zero, List.set_cons_succ])
      refine wpAnyE_take (i := 3) (v := ?_) rfl (by kernel_rfl) (by kernel_rfl) (by kernel_rfl) (by kernel_rfl) (by kernel_rfl) (fun _ _ _ h => h) (Or.inl ⟨by rfl, ?_⟩) (by assumption) ?_; rotate_left; (focus (intro w hSw; (try dsimp only at hSw); (try obtain ⟨hSw1, hSw2, hSw3⟩ := hSw); go_simp <;> with_reducible rfl)); (try simp only [Act.put, List.getElem_toArray, List.getElem_cons_zero, List.getElem_cons_succ, List.setIfInBounds_toArray, List.set_cons_zero, List.set_cons_succ])
      refine wpAnyE_take (i := 4) (v := ?_) rfl (by kernel_rfl) (by kernel_rfl) (by kernel_rfl) (by kernel_rfl) (by kernel_rfl) (fun _ _ _ h => h) (Or.inl ⟨by rfl, ?_⟩) (by assumption) ?_; rotate_left; (focus (intro w hSw; (try dsimp only at hSw); (try obtain ⟨hSw1, hSw2, hSw3⟩ := hSw); go_simp <;> with_reducible rfl)); (try simp only [Act.put, List.getElem_toArray, List.getElem_cons_zero, List.getElem_cons_succ, List.setIfInBounds_toArray, List.set_cons_zero, List.set_cons_succ])
      refine wpAnyE_take (i := 5) (v := ?_) rfl (by kernel_rfl) (by kernel_rfl) (by kernel_rfl) (by kernel_rfl) (by kernel_rfl) (fun _ _ _ h => h) (Or.inl ⟨by rfl, ?_⟩) (by assumption) ?_; rotate_left; (focus (intro w hSw; (try dsimp only at hSw); (try obtain ⟨hSw1, hSw2, hSw3⟩ := hSw); go_simp <;> with_reducible rfl)); (try simp only [Act.put, List.getElem_toArray, List.getElem_cons_zero, List.getElem_cons_succ, List.setIfInBounds_toArray, List.set_cons_zero, List.set_cons_succ])
      refine wpAnyE_take (i := 6) (v := ?_) rfl (by kernel_rfl) (by kernel_rfl) (by kernel_rfl) (by kernel_rfl) (by kernel_rfl) (fun _ _ _ h => h) (Or.inl ⟨by rfl, ?_⟩) (by assumption) ?_; rotate_left; (focus (intro w hSw; (try dsimp only at hSw); (try obtain ⟨hSw1, hSw2, hSw3⟩ := hSw); go_simp <;> with_reducible rfl)); (try simp only [Act.put, List.getElem_toArray, List.getElem_cons_zero, List.getElem_cons_succ, List.setIfInBounds_toArray, List.set_cons_zero, List.set_cons_succ])
      refine wpAnyE_take (i := 7) (v := ?_) rfl (by kernel_rfl) (by kernel_rfl) (by kernel_rfl) (by kernel_rfl) (by kernel_rfl) (fun _ _ _ h => h) (Or.inl ⟨by rfl, ?_⟩) (by assumption) ?_; rotate_left; (focus (intro w hSw; (try dsimp only at hSw); (try obtain ⟨hSw1, hSw2, hSw3⟩ := hSw); go_simp <;> with_reducible rfl)); (try simp only [Act.put, List.getElem_toArray, List.getElem_cons_zero, List.getElem_cons_succ, List.setIfInBounds_toArray, List.set_cons_zero, List.set_cons_succ])
      have hbd : Below wr.heap.size wr wr.drew := below_drewN _ wr 1
      have hEW := HI.out.ents.ents.new hbd
      refine takeE_call (i := 8) #[.slice la ys.length lc, .int .i64 p, .bool (!bit key p)] (fun v w' => ∃ a2 c2, v = .slice a2 (sideOf p (!bit key p) ys).length c2 ∧ Ents w'.heap.size w' (.slice a2 (sideOf p (!bit key p) ys).length c2) (sideOf p (!bit key p) ys) ∧ Below wr.heap.size wr w') (by kernel_rfl) rfl rfl rfl (by kernel_rfl) (enters_of Tryd.func59 (by kernel_rfl) rfl)
        ((side_any p (!bit key p) _ ys wr.drew hEW hp (by omega) hks).mono fun e w' ⟨sv', h1, h2, h3⟩ => by
          have hE2 := ents_of_row hEW h3 h2 (side_sub p _ ys)
          obtain ⟨a2, c2, rfl, _⟩ := id hE2
          exact ⟨_, h1, a2, c2, rfl, hE2, hbd.trans h3⟩) ?_
      rintro _ W1 ⟨a2, c2, rfl, E1, hb1⟩
      have hgl := block_lt HI.out.got
      have hS1 : (fun W' : World => W'.cell? ⟨w.heap.size + 1, 3, none⟩ = some sv) W1 := (hb1.cell (p := ⟨w.heap.size + 1, 3, none⟩) hgl).trans hS0
      refine ⟨hS1, ?_⟩
      simp only [Act.put, List.getElem_toArray, List.getElem_cons_zero, List.getElem_cons_succ, List.setIfInBounds_toArray, List.set_cons_zero, List.set_cons_succ]
      obtain ⟨y, hyt, hyw, hye⟩ : ∃ y : Tri, (if bit key p then l else r) = y ∧ y.WF ∧ (sideOf p (!bit key p) ys).map EntV.ent = y.ents := by
        obtain ⟨s1, s2⟩ := side_left HI.out.wf HI.out.same
        obtain ⟨wl, wr', _⟩ := HI.out.wf
        cases bit key p with
        | true => exact ⟨l, rfl, wl, s1⟩
        | false => exact ⟨r, rfl, wr', s2⟩
      have hsl := sideOf_length p (!bit key p) ys
      refine takeE_call (i := 9) #[.slice a2 (sideOf p (!bit key p) ys).length c2] (fun v w' => v = .agg (sumV (rootT y)) ∧ Below W1.heap.size W1 w') (by kernel_rfl) rfl rfl rfl (by kernel_rfl) (enters_of Tryd.func14 (by kernel_rfl) rfl)
        ((xroot_any (some y) hyw _ _ W1 E1 hye (by omega)).mono fun e w' ⟨h1, h2⟩ => ⟨_, h1, rfl, h2⟩) ?_
      rintro _ W2 ⟨rfl, hb2⟩
      have hb12 : Below wr.heap.size wr W2 := hb1.trans (hb2.mono hb1.size)
      have hS2 : (fun W' : World => W'.cell? ⟨w.heap.size + 1, 3, none⟩ = some sv) W2 := (hb12.cell (p := ⟨w.heap.size + 1, 3, none⟩) hgl).trans hS0
      refine ⟨hS2, ?_⟩
      simp only [Act.put, List.getElem_toArray, List.getElem_cons_zero, List.getElem_cons_succ, List.setIfInBounds_toArray, List.set_cons_zero, List.set_cons_succ]
      obtain ⟨i0, hi, hz0, hz1, hz2⟩ := info_parts Tryd.infoStep
      have hlen : (stepC (p, bit key p, rootT y)).toArray.size = 34 := by simp [stepC, rootT_length]
      refine takeE_build (i := 10) [(0, .int .i64 p), (1, .bool (bit key p)), (2, .agg (sumV (rootT y)))] (stepC (p, bit key p, rootT y)).toArray (by kernel_rfl) rfl rfl rfl (by kernel_rfl) (built_step p _ _ (by simp [rootT_length])) hS2 ?_
      simp only [Act.put, List.getElem_toArray, List.getElem_cons_zero, List.getElem_cons_succ, List.setIfInBounds_toArray, List.set_cons_zero, List.set_cons_succ]
      have hbA : Below W2.heap.size W2 (W2.alloc (.cells (stepC (p, bit key p, rootT y)).toArray 62)) := (Below.refl _ _).alloc (Nat.le_refl _) _
      have hnA := World.alloc_heap_new W2 (.cells (stepC (p, bit key p, rootT y)).toArray 62)
      have hS3 : (fun W' : World => W'.cell? ⟨w.heap.size + 1, 3, none⟩ = some sv) (W2.alloc (.cells (stepC (p, bit key p, rootT y)).toArray 62)) := (hbA.cell (p := ⟨w.heap.size + 1, 3, none⟩) (World.block_lt_of_cell? W2 _ hS2)).trans hS2
      refine takeE_slice (i := 11) (stepC (p, bit key p, rootT y)).toArray i0 _ (by kernel_rfl) rfl rfl rfl (by kernel_rfl) Tryd.underlying57 hi hz0 (by rw [hz1, hlen]) (by rw [hlen]; omega) (by rw [hlen]; omega) hS3 ?_
      simp only [Act.put, List.getElem_toArray, List.getElem_cons_zero, List.getElem_cons_succ, List.setIfInBounds_toArray, List.set_cons_zero, List.set_cons_succ]
      have hb3 : Below wr.heap.size wr (W2.alloc (.cells (stepC (p, bit key p, rootT y)).toArray 62)) := hb12.trans (hbA.mono hb12.size)
      generalize W2.alloc (.cells (stepC (p, bit key p, rootT y)).toArray 62) = W3 at *
      have hown3 := (Spares.of_new (S := fun _ => False) hb3).row HI.out.row (fun _ _ => id)
      have hcnt : pre.length + 1 < 1000000000 := by
        have q1 := congrArg List.length HI.out.steps
        have q2 := Tri.steps_length T key
        have q3 := congrArg List.length hx'
        simp at q1 q3
        omega
      have hb3z := hb3.size
      have hbig := HI.out.big
      refine takeE_append (i := 12) (s := .tmp 29) (x := .tmp 39) (t := 57) (by kernel_rfl) rfl rfl rfl (w.heap.size + 2) 62 i0 _ 34 48 Tryd.underlying57 hi hz0 hz1 hz2 rfl (by decide) sv pre.length (pre.flatMap stepC) (by kernel_rfl) hown3 ⟨W2.heap.size, 0, none⟩ 1 1 (stepC (p, bit key p, rootT y)) (by kernel_rfl) (by simpa using hlen) (by have := World.news_of_block hnA; simpa using this) (stepC_one _) (by decide) (by unfold maxLen; omega) (by omega) (by omega) ?_
      intro g cap W4 hown4 hgrow hat hglt
      have hlow : ∀ i, sv.ownBlock = some i → w.heap.size + 2 ≤ i ∧ i < wr.heap.size := fun i hi => HI.out.row.lt i hi
      have hS4 : (fun W' : World => W'.cell? ⟨w.heap.size + 1, 3, none⟩ = some sv) W4 := (hgrow.cell_far ⟨w.heap.size + 1, 3, none⟩ (World.block_lt_of_cell? W3 _ hS3) (fun e => by have h1 : w.heap.size + 2 ≤ w.heap.size + 1 := (hlow _ e.symm).1; omega)).trans hS3
      have hfr : W4.frozen? ⟨w.heap.size + 1, 3, none⟩ = false := by
        rw [hgrow.frozen_far ⟨w.heap.size + 1, 3, none⟩ (World.block_lt_of_cell? W3 _ hS3) (fun e => by have h1 : w.heap.size + 2 ≤ w.heap.size + 1 := (hlow _ e.symm).1; omega)]
        have hgot3 := row_kept HI.out.got hb3
        simp [World.frozen?, hgot3]
      have HST := hid (xpath_step HI.out (p, bit key p, rootT y) hb3 hgrow hown4 hat)
      refine ⟨hS4, ?_⟩
      simp only [Act.put, List.getElem_toArray, List.getElem_cons_zero, List.getElem_cons_succ, List.setIfInBounds_toArray, List.set_cons_zero, List.set_cons_succ]
      clear hown4 hgrow hat hlow hown3 hnA hS3 hS2 hS1 hb3 hb2 hb1 hb12 hbA E1
      refine wpAnyE_take (i := 13) (v := ?_) rfl (by kernel_rfl) (by kernel_rfl) (by kernel_rfl) (by kernel_rfl) (by kernel_rfl) (fun _ _ _ h => h) (Or.inl ⟨by rfl, ?_⟩) (by assumption) ?_; rotate_left; (focus (intro w hSw; (try dsimp only at hSw); (try obtain ⟨hSw1, hSw2, hSw3⟩ := hSw); go_simp <;> with_reducible rfl)); (try simp only [Act.put, List.getElem_toArray, List.getElem_cons_zero, List.getElem_cons_succ, List.setIfInBounds_toArray, List.set_cons_zero, List.set_cons_succ])
      refine takeE_store (i := 14) (pi := ⟨w.heap.size + 1, 3, none⟩) (v := .slice (some ⟨g, 0, none⟩) (pre.length + 1) cap) Tryd.infoSteps (by kernel_rfl) rfl rfl rfl rfl (by kernel_rfl) (by kernel_rfl) rfl rfl hS4 hfr (.inr rfl) ?_
      refine wpAnyE_done (by kernel_rfl) ?_ _
      simp only [only_normal]
      obtain ⟨k1, k2, k3, k4, k5, k6⟩ := HST.out
      have HK1 := hid k1
      have HK2 := hid k2
      have HK3 := hid k3
      have HK4 := hid k4
      have HK5 := hid k5
      have HK6 := hid k6
      clear k1 k2 k3 k4 k5 k6 HST hfr hS4 hS0
      generalize W4.setCell ⟨w.heap.size + 1, 3, none⟩ (.slice (some ⟨g, 0, none⟩) (pre.length + 1) cap) = W5 at *
      have HSD := side_any p (bit key p) _ ys W5 HK4.out.ents hp (by omega) hks
      obtain ⟨z, hzt, hzw, hze⟩ : ∃ z : Tri, (if bit key p then r else l) = z ∧ z.WF ∧ (sideOf p (bit key p) ys).map EntV.ent = z.ents := by
        obtain ⟨s1, s2⟩ := side_left HI.out.wf HI.out.same
        obtain ⟨wl, wr', _⟩ := HI.out.wf
        cases bit key p with
        | true => exact ⟨r, rfl, wr', s2⟩
        | false => exact ⟨l, rfl, wl, s1⟩
      have hsl2 := sideOf_length p (bit key p) ys
      have hlt2 : (sideOf p (bit key p) ys).length < ys.length := by
        have q1 := congrArg List.length hze
        have q2 := congrArg List.length hye
        have q3 := congrArg List.length HI.out.same
        have q4 := Tri.ents_pos y
        rw [List.length_map] at q1 q2 q3
        rw [q1, q3, ← hzt]
        simp only [Tri.ents, List.length_append]
        have q5 := Tri.ents_pos l
        have q6 := Tri.ents_pos r
        split <;> omega
      have HSTP : Hid ((pre ++ [(p, bit key p, rootT y)]) ++ z.steps key = T.steps key ∧ z.near key = T.near key) := hid (by
        have q1 := HI.out.steps
        have q2 := HI.out.near
        simp only [Tri.steps, Tri.near] at q1 q2
        rw [← q1, ← q2, ← hyt, ← hzt]
        cases bit key p <;> simp)
      generalize (p, bit key p, rootT y) = stp at *
      go_wp2_with (go_at_call 59; refine HSD.mono ?_; clear HSD; rintro e W6 ⟨sv6, rfl, o6, hb6⟩; obtain ⟨⟨a6, c6, rfl⟩, _⟩ := row_form2 o6)
      have HI6 : Hid (XPath w T key W6 (.slice a6 (sideOf p (bit key p) ys).length c6) (sideOf p (bit key p) ys) z (pre ++ [stp]) (.slice (some ⟨g, 0, none⟩) (pre.length + 1) cap)) := hid (by
        have hEk := (HK4.out.keep (R := fun _ => False) (Spares.of_new hb6) (fun _ _ => id))
        refine ⟨row_kept HK1.out hb6, row_kept HK2.out hb6, (Spares.of_new (S := fun _ => False) hb6).row HK3.out (fun _ _ => id), ?_, hze, hzw, HSTP.out.1, HSTP.out.2, HK5.out.trans (hb6.mono HK5.out.size), Nat.le_trans HK6.out hb6.size⟩
        refine entsS_of o6 (fun x hx => ?_) (fun i h1 h2 => ⟨by have := HK6.out; omega, fun e => by have h3 := (HK3.out.lt i e).2; omega, h2⟩)
        have hx' := side_sub p _ ys x hx
        obtain ⟨s1, s2⟩ := hEk.ents.says (Nat.le_refl _) x hx'
        exact ⟨s1, s2, (HK4.out.all x hx').1.mono (fun i hi => ⟨hi.1, hi.2.1, Nat.lt_of_lt_of_le hi.2.2 hb6.size⟩), (HK4.out.all x hx').2.mono (fun i hi => ⟨hi.1, hi.2.1, Nat.lt_of_lt_of_le hi.2.2 hb6.size⟩)⟩)
      go_roundw
      case rel => exact ⟨sideOf p (bit key p) ys, z, pre ++ [stp], _, ⟨_, _, rfl⟩, by omega, HI6⟩
      case measure => simp only [lenOf]; omega

theorem xpath_any (S : Nat → Prop) (xb : Nat) (xs : List EntV) (T : Option Tri) (kv : Value) (key : List UInt8) (w : World) (h : XS S w xb xs) (hT : Tri.WFO T) (hx' : xs.map EntV.ent = Tri.entsO T) (hk : Says w kv key) (hkl : key.length ≤ 140737488355328) (hn : xs.length < 1000000) :
    Calls Tryd.prog 35 #[.pointer (some ⟨xb, 0, none⟩), kv] w fun e w' => ∃ ek ev sv, e = .returned (.agg #[.bool T.isNone, ek, ev, sv]) ∧ Copy w.heap.size w' ek (((T.map (·.near key)).map (·.1)).getD []) ∧ Copy w.heap.size w' ev (((T.map (·.near key)).map (·.2)).getD []) ∧
      w'.ownsRow w.heap.size 62 34 sv (stepsO T key).length ((stepsO T key).flatMap stepC) ∧ Below w.heap.size w w' := by
  cases T with
  | none =>
    have h0 : xs = [] := by simpa [Tri.entsO] using hx'
    subst h0
    obtain ⟨⟨sv, h1, h2⟩, _⟩ := h
    obtain ⟨a, c, rfl, _⟩ := h2.ents
    obtain ⟨a1, c1, rfl, _⟩ := hk
    exact (xpath_none xb a c _ w h1 ⟨_, _, _, rfl⟩).mono fun e w' ⟨h1, h2⟩ => ⟨_, _, _, h1, World.ownsRow_nil _ _ _ _, World.ownsRow_nil _ _ _ _, World.ownsRow_nil _ _ _ _, h2⟩
  | some t => exact xpath_some S xb xs t kv key w h hT hx' hk hkl hn
end Go.Proofs.YthkeofinamedfaaDoor
