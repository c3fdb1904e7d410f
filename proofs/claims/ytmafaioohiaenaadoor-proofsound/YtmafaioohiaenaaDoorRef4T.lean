/- Contracts of the document's own Texts, with contents (in Ref4C's place). -/
import Derived.Test.YtmafaioohiaenaaDoorRef4B
import Derived.Test.YtmafaioohiaenaaDoorEqD
import Derived.Test.YtmafaioohiaenaaDoorSoundP
namespace Go.Proofs.YtmafaioohiaenaaDoor
open Go.RowKit Go.Shelf
set_option linter.unusedVariables false
set_option linter.unusedSimpArgs false
set_option maxRecDepth 20000

theorem spares_setRow (w : World) (g : Nat) (A : Array Value) : Spares (fun i => i = g) w (w.setRow g A) :=
  ⟨rfl, rfl, rfl, by show w.heap.size ≤ (w.heap.modify _ _).size; simp, fun k _ hk => setRow_other w g k _ hk⟩

/-- A row of texts that a call has made, its slices told. -/
def TxV (B : Nat) (w : World) (rv : Value) (vs : List Value) (X : List (List UInt8)) : Prop :=
  w.ownsRow B 24 1 rv X.length vs ∧ vs.length = X.length ∧ ∀ (j : Nat) (u : Value) (r : List UInt8), vs[j]? = some u → X[j]? = some r → w.ownsRow B 5 1 u r.length (r.map by8)

/-- A row of texts that a call has made. -/
structure TxRow (B : Nat) (w : World) (rv : Value) (X : List (List UInt8)) : Prop where
  ex : ∃ vs, TxV B w rv vs X

theorem TxV.spared {S : Nat → Prop} {B : Nat} {w w' : World} {rv : Value} {vs : List Value} {X : List (List UInt8)} (h : TxV B w rv vs X) (hs : Spares S w w') (hS : ∀ i, B ≤ i → i < w.heap.size → ¬ S i) : TxV B w' rv vs X :=
  ⟨hs.row h.1 (fun g hg => hS g (h.1.lt g hg).1 (h.1.lt g hg).2), h.2.1, fun j u r hu hr => hs.row (h.2.2 j u r hu hr) (fun g hg => hS g ((h.2.2 j u r hu hr).lt g hg).1 ((h.2.2 j u r hu hr).lt g hg).2)⟩

theorem TxV.lower {B B' : Nat} {w : World} {rv : Value} {vs : List Value} {X : List (List UInt8)} (h : TxV B w rv vs X) (hB : B' ≤ B) : TxV B' w rv vs X :=
  ⟨owns_lower h.1 (fun g hg => Nat.le_trans hB (h.1.lt g hg).1), h.2.1, fun j u r hu hr => owns_lower (h.2.2 j u r hu hr) (fun g hg => Nat.le_trans hB ((h.2.2 j u r hu hr).lt g hg).1)⟩

theorem TxV.one {B : Nat} {w : World} {rv : Value} {vs : List Value} {X : List (List UInt8)} (h : TxV B w rv vs X) : ∀ u ∈ vs, u.oneCell' = true := fun u hu => by
  obtain ⟨j, hj⟩ := List.getElem?_of_mem hu
  have hjr : j < X.length := by rw [← h.2.1]; exact (List.getElem?_eq_some_iff.1 hj).1
  obtain ⟨a, c, rfl⟩ := row_form (h.2.2 j u _ hj (List.getElem?_eq_getElem hjr))
  rfl

theorem TxRow.form {B : Nat} {w : World} {rv : Value} {X : List (List UInt8)} (h : TxRow B w rv X) : ∃ a c, rv = .slice a X.length c := by
  obtain ⟨vs, h⟩ := h.ex
  exact row_form h.1

theorem TxRow.new {B : Nat} {w w' : World} {rv : Value} {X : List (List UInt8)} (h : TxRow B w rv X) (hb : Below w.heap.size w w') : TxRow B w' rv X := by
  obtain ⟨vs, h⟩ := h.ex
  exact ⟨vs, h.spared (Spares.of_new (S := fun _ => False) hb) (fun _ _ _ h => h)⟩

theorem TxRow.lower {B B' : Nat} {w : World} {rv : Value} {X : List (List UInt8)} (h : TxRow B w rv X) (hB : B' ≤ B) : TxRow B' w rv X := by
  obtain ⟨vs, h⟩ := h.ex
  exact ⟨vs, h.lower hB⟩

theorem TxRow.setRow {B : Nat} {w : World} {rv : Value} {X : List (List UInt8)} {g : Nat} (h : TxRow B w rv X) (A : Array Value) (hg : g < B) : TxRow B (w.setRow g A) rv X := by
  obtain ⟨vs, h⟩ := h.ex
  exact ⟨vs, h.spared (spares_setRow w g A) (fun i h1 _ e => by omega)⟩

theorem one_text (B : Nat) (w : World) (a : Option Addr) (tx : List UInt8) (c : Nat) (hB : B ≤ w.heap.size) (ho : w.ownsRow B 5 1 (.slice a tx.length c) tx.length (tx.map by8)) : TxRow B (w.alloc (.cells #[.slice a tx.length c] 24)) (.slice (some ⟨w.heap.size, 0, none⟩) 1 1) [tx] :=
  ⟨⟨[.slice a tx.length c], ⟨rfl, .inr ⟨w.heap.size, 1, #[.slice a tx.length c], rfl, hB, World.alloc_heap_new _ _, Nat.le_refl _, by unfold maxLen; simp, rfl, rfl⟩⟩, rfl, fun j u r hu hr => by
    match j, hu, hr with
    | 0, hu, hr => simp at hu hr; subst hu hr; exact (Spares.of_new (S := fun _ => False) ((Below.refl _ _).alloc (Nat.le_refl _) _)).row ho (fun _ _ => id)⟩⟩

/-- Behind an append of rows of texts. -/
theorem txv_app {B : Nat} {w w' : World} {rv rv' : Value} {vs vs' : List Value} {X X' : List (List UInt8)} (h : TxV B w rv vs X) (hl : vs'.length = X'.length) (h' : ∀ (j : Nat) (u : Value) (r : List UInt8), vs'[j]? = some u → X'[j]? = some r → w.ownsRow B 5 1 u r.length (r.map by8)) (hg : w.grownBy w' rv.ownBlock)
    (ho : w'.ownsRow B 24 1 rv' (X.length + X'.length) (vs ++ vs')) : TxV B w' rv' (vs ++ vs') (X ++ X') := by
  have s : Spares (fun i => rv.ownBlock = some i) w w' := Spares.of_grown hg (fun k e => e)
  have hk : ∀ (n : Nat) (u : Value) (xs : List Value), w.ownsRow B 5 1 u n xs → w'.ownsRow B 5 1 u n xs := fun n u xs hu => s.row hu (fun i hi e => by
    obtain ⟨x1, y1⟩ := row_type hu hi
    obtain ⟨x2, y2⟩ := row_type h.1 e
    rw [y1] at y2; cases y2)
  refine ⟨by rw [List.length_append]; exact ho, by rw [List.length_append, List.length_append, h.2.1, hl], fun j u r hu hr => hk _ _ _ ?_⟩
  rcases Nat.lt_or_ge j vs.length with hj | hj
  · rw [List.getElem?_append_left hj] at hu
    rw [List.getElem?_append_left (by rw [← h.2.1]; exact hj)] at hr
    exact h.2.2 j u r hu hr
  · rw [List.getElem?_append_right hj] at hu
    rw [List.getElem?_append_right (by rw [← h.2.1]; exact hj), ← h.2.1] at hr
    exact h' _ u r hu hr

theorem textsT_length : ∀ t : Tri, (textsT t).length + 1 = 2 * t.ents.length
  | .leaf k v => rfl
  | .fork p l r => by
    have h1 := textsT_length l
    have h2 := textsT_length r
    simp only [textsT, Tri.ents, List.length_append, List.length_cons, List.length_nil]
    omega

set_option maxHeartbeats 8000000 in
theorem texts0_any (a : Option Addr) (c : Nat) (w : World) :
    Calls Tryd.prog 31 #[.slice a 0 c] w fun e w' => ∃ rv, e = .returned (.tuple #[.agg (sumV noneS), rv]) ∧ TxRow w.heap.size w' rv [noneZ] ∧ Below w.heap.size w w' := by
  have hnew := World.alloc_heap_new w (.cells zero32 23)
  have hbn : Below w.heap.size w (w.alloc (.cells zero32 23)) := (Below.refl _ _).alloc (Nat.le_refl _) _
  have HS := hid (isSum noneS (ofS_length _ _))
  have HSH := hid noneS_sha
  go_enter Tryd.func31, Tryd.ntmps31
  go_wp2_with fail
  generalize hw1 : w.alloc _ = w1
  replace hbn : Below w.heap.size w w1 := by rw [← hw1]; exact hbn
  replace hnew : w1.heap[w.heap.size]? = some (.cells zero32 23 (0, 0)) := by rw [← hw1]; exact hnew
  clear hw1
  have HT := xtext_any 0 (⟨#[110, 111, 110, 101]⟩ : ByteArray) (.slice none 0 0) [] w1 (by decide) (Nat.zero_le _) ⟨none, 0, [], rfl, Nat.le_refl _, Nat.zero_le _, rfl, fun h => absurd rfl h, fun j u r hu => by simp at hu⟩ (fun l c e => by cases e; rfl) (by simp)
  have HTL := hid (textOf_length [110, 111, 110, 101] [])
  replace HT : Calls Tryd.prog 71 #[.string ⟨#[110, 111, 110, 101]⟩, .slice none 0 0] w1 fun e w' => ∃ v', e = .returned v' ∧ w'.ownsRow w1.heap.size 5 1 v' (textOf [110, 111, 110, 101] []).2.length ((textOf [110, 111, 110, 101] []).2.map by8) ∧ Below w1.heap.size w1 w' := HT
  obtain ⟨tx, htx⟩ : ∃ tx, (textOf [110, 111, 110, 101] []).2 = tx := ⟨_, rfl⟩
  rw [htx] at HT HTL HSH
  have HTX : Hid (noneZ = tx) := hid htx
  clear htx
  have HN := hid hnew
  have HB := hid hbn
  clear hnew hbn
  refine HT.mono ?_
  clear HT
  rintro e w2 ⟨v2, rfl, ho2, hb2⟩
  obtain ⟨a2, c2, rfl⟩ := row_form ho2
  have HRW := refRaw_any w2.heap.size _ tx w2 (Nat.le_refl _) (shows_of_owns ho2).2 HTL.out
  rw [← HSH.out] at HRW
  replace HRW : Calls Tryd.prog 11 #[.slice a2 tx.length c2] w2 fun e w' => e = .returned (.agg (sumV noneS)) ∧ Below w2.heap.size w2 w' := HRW
  obtain ⟨A, hA⟩ : ∃ A, sumV noneS = A := ⟨_, rfl⟩
  rw [hA] at HRW HS
  have HA := hid hA
  have HB2 := hid (HB.out.trans (hb2.mono HB.out.size))
  have HN2 := hid ((hb2.block _ (block_lt HN.out)).trans HN.out)
  have HO2 : Hid (w2.ownsRow (w.heap.size + 1) 5 1 (.slice a2 tx.length c2) tx.length (tx.map by8)) := hid (owns_lower ho2 (fun g hg => by have h1 := (ho2.lt g hg).1; have h2 := block_lt HN.out; omega))
  clear ho2 hb2 HN HB hA
  go_wp2_with (first
    | (go_at_call 11; refine HRW.mono ?_; clear HRW; rintro e w3 ⟨rfl, hb3⟩
       have HB3 := hid (HB2.out.trans (hb3.mono HB2.out.size))
       have HN3 := hid ((hb3.block _ (block_lt HN2.out)).trans HN2.out)
       have hz3 := HB3.out.size
       have HN4 : Hid ((w3.alloc (.cells #[.slice a2 tx.length c2] 24)).heap[w.heap.size]? = some (.cells zero32 23 (0, 0))) := hid ((Below.heap_alloc _ _ _ (block_lt HN3.out)).trans HN3.out)
       have HT4 := hid (one_text (w.heap.size + 1) w3 a2 tx c2 (block_lt HN3.out) (ownsRow_below HO2.out hb3))
       have HB4 : Hid (Below w.heap.size w (w3.alloc (.cells #[.slice a2 tx.length c2] 24))) := hid (HB3.out.alloc hz3 _)
       have HL3 := hid (block_lt HN3.out))
    | (refine wpList_store_row rfl 23 (.tmp 2) (.tmp 17) rfl w.heap.size A rfl rfl 23 zero32 HN4.out HS.out.info HS.out.size HS.out.one ?_)
    | (refine bodyPost_ret (v := .tuple #[.agg A, .slice (some ⟨w3.heap.size, 0, none⟩) 1 1]) (results_row_tmp (p := 2) (u := 3) (ty := 23) rfl _ _ w.heap.size 23 A (0, 0) _ _ rfl (setRow_heap _ _ _ _ _ _ HN4.out) Tryd.underlying23 HS.out.info) rfl ⟨_, by rw [HA.out], by rw [HTX.out]; exact (HT4.out.setRow _ (Nat.lt_succ_self _)).lower (Nat.le_succ _), below_setRow HB4.out (Nat.le_refl _) _⟩))

theorem Tryd.infoBytes4 : (Tryd.prog.info? 24).map (fun i => (i.zero, i.size, i.bytes)) = some (some (.slice none 0 0), 1, 24) := by kernel_rfl

theorem side_left {p : Nat} {l r : Tri} (h : (Tri.fork p l r).WF) {xs : List EntV} (hx : xs.map EntV.ent = (Tri.fork p l r).ents) : (sideOf p false xs).map EntV.ent = l.ents ∧ (sideOf p true xs).map EntV.ent = r.ents := by
  have key : ∀ (q : Bool) (ys : List EntV), (∀ y ∈ ys, bit y.k p = q) → sideOf p q ys = ys ∧ sideOf p (!q) ys = [] := fun q ys hy => by
    refine ⟨List.filter_eq_self.2 (fun y hm => by simp [hy y hm]), List.filter_eq_nil_iff.2 (fun y hm => ?_)⟩
    rw [hy y hm]
    cases q <;> simp
  obtain ⟨h1, h2, h3⟩ := fork_parts hx
  obtain ⟨_, _, h0, h1', _⟩ := h
  have e : xs = xs.take l.ents.length ++ xs.drop l.ents.length := (List.take_append_drop _ _).symm
  have a0 : ∀ y ∈ xs.take l.ents.length, bit y.k p = false := fun y hy => h0 y.ent (by rw [← h1]; exact List.mem_map_of_mem hy)
  have a1 : ∀ y ∈ xs.drop l.ents.length, bit y.k p = true := fun y hy => h1' y.ent (by rw [← h2]; exact List.mem_map_of_mem hy)
  obtain ⟨b0, b1⟩ := key false _ a0
  obtain ⟨c0, c1⟩ := key true _ a1
  simp only [Bool.not_false, Bool.not_true] at b1 c1
  rw [e]
  simp only [sideOf, List.filter_append] at *
  rw [b0, b1, c0, c1]
  simp [h1, h2]

theorem side_sub (i : Nat) (right : Bool) (xs : List EntV) : ∀ y ∈ sideOf i right xs, y ∈ xs := fun y hy => (List.mem_filter.1 hy).1

set_option maxHeartbeats 8000000 in
theorem texts_any : ∀ (t : Tri), t.WF → ∀ (v : Value) (xs : List EntV) (w : World), Ents w.heap.size w v xs → xs.map EntV.ent = t.ents → xs.length < 1000000 →
    Calls Tryd.prog 31 #[v] w fun e w' => ∃ rv, e = .returned (.tuple #[.agg (sumV (rootT t)), rv]) ∧ TxRow w.heap.size w' rv (textsT t) ∧ Below w.heap.size w w' := by
  intro t
  induction t with
  | leaf k0 v0 =>
    intro hwf v xs w hE hx hn
    have hl1 : xs.length = 1 := by have := congrArg List.length hx; simpa [Tri.ents] using this
    obtain ⟨a, c, rfl, hc1, hc2, _⟩ := id hE
    obtain ⟨b, off, ka, kc, va, vc, kb, vb, rfl, hb, hx0, c0, c1, s1, s2⟩ := hE.at 0 (by omega)
    have e0 := ent_at hx hx0
    simp only [Tri.ents, List.getElem?_cons_zero, Option.some.injEq, Prod.mk.injEq] at e0
    obtain ⟨rfl, rfl⟩ := e0
    rw [hl1] at hc1 ⊢
    unfold maxLen at hc2
    have HS := hid (isSum (rootT (.leaf k0 v0)) (rootT_length _))
    simp only [rootT] at HS ⊢
    have HSH := hid (leafS_sha k0 v0 hwf)
    have hnew := World.alloc_heap_new w (.cells zero32 23)
    have hbn : Below w.heap.size w (w.alloc (.cells zero32 23)) := (Below.refl _ _).alloc (Nat.le_refl _) _
    go_enter Tryd.func31, Tryd.ntmps31
    go_wp2_with fail
    generalize hw1 : w.alloc _ = w1
    replace hbn : Below w.heap.size w w1 := by rw [← hw1]; exact hbn
    replace hnew : w1.heap[w.heap.size]? = some (.cells zero32 23 (0, 0)) := by rw [← hw1]; exact hnew
    clear hw1
    have q1 : w1.cell? ⟨b, off, none⟩ = some (.slice ka k0.length kc) := (hbn.cell (p := ⟨b, off, none⟩) hb).trans (by simpa using c0)
    have q2 : w1.cell? ⟨b, off + 1, none⟩ = some (.slice va v0.length vc) := (hbn.cell (p := ⟨b, off + 1, none⟩) hb).trans (by simpa using c1)
    have hS0 : w1.drew.cell? ⟨b, off, none⟩ = some (.slice ka k0.length kc) ∧ w1.drew.cell? ⟨b, off + 1, none⟩ = some (.slice va v0.length vc) := ⟨q1, q2⟩
    have hbz := hbn.size
    have hbA : Below w1.drew.heap.size w1.drew (w1.drew.alloc (.cells #[.slice ka k0.length kc, .slice va v0.length vc] 24)) := (Below.refl _ _).alloc (Nat.le_refl _) _
    have hnA := World.alloc_heap_new w1.drew (.cells #[.slice ka k0.length kc, .slice va v0.length vc] 24)
    have hzA : (w1.drew.alloc (.cells #[.slice ka k0.length kc, .slice va v0.length vc] 24)).heap.size = w1.heap.size + 1 := World.size_alloc _ _
    have hbWA : Below w.heap.size w (w1.drew.alloc (.cells #[.slice ka k0.length kc, .slice va v0.length vc] 24)) := hbn.drew.trans (hbA.mono hbz)
    have hSA : (w1.drew.alloc (.cells #[.slice ka k0.length kc, .slice va v0.length vc] 24)).cell? ⟨b, off, none⟩ = some (.slice ka k0.length kc) ∧ (w1.drew.alloc (.cells #[.slice ka k0.length kc, .slice va v0.length vc] 24)).cell? ⟨b, off + 1, none⟩ = some (.slice va v0.length vc) := ⟨(hbA.cell (p := ⟨b, off, none⟩) (World.block_lt_of_cell? _ _ hS0.1)).trans hS0.1, (hbA.cell (p := ⟨b, off + 1, none⟩) (World.block_lt_of_cell? _ _ hS0.2)).trans hS0.2⟩
    have HT := xtext_any (w1.heap.size + 1) (⟨#[108, 101, 97, 102]⟩ : ByteArray) (.slice (some ⟨w1.heap.size, 0, none⟩) 2 2) [k0, v0] (w1.drew.alloc (.cells #[.slice ka k0.length kc, .slice va v0.length vc] 24)) (by decide) (by rw [hzA]; exact Nat.le_refl _) (lists_two _ w1.heap.size _ _ _ k0 v0 hnA (by omega) ((s1.below hbWA).mono (by omega)) ((s2.below hbWA).mono (by omega))) (fun l c e => by cases e) (by simp)
    have HTL := hid (textOf_length [108, 101, 97, 102] [k0, v0])
    replace HT : Calls Tryd.prog 71 #[.string ⟨#[108, 101, 97, 102]⟩, .slice (some ⟨w1.heap.size, 0, none⟩) 2 2] (w1.drew.alloc (.cells #[.slice ka k0.length kc, .slice va v0.length vc] 24)) fun e w' => ∃ v', e = .returned v' ∧ w'.ownsRow (w1.heap.size + 1) 5 1 v' (textOf [108, 101, 97, 102] [k0, v0]).2.length ((textOf [108, 101, 97, 102] [k0, v0]).2.map by8) ∧ Below (w1.heap.size + 1) (w1.drew.alloc (.cells #[.slice ka k0.length kc, .slice va v0.length vc] 24)) w' := HT.mono fun e w' ⟨v', h1, h2, h3⟩ => by rw [hzA] at h2 h3; exact ⟨v', h1, h2, h3⟩
    obtain ⟨tx, htx⟩ : ∃ tx, (textOf [108, 101, 97, 102] [k0, v0]).2 = tx := ⟨_, rfl⟩
    rw [htx] at HT HTL HSH
    have HTX : Hid (textsT (.leaf k0 v0) = [tx]) := hid (by rw [← htx]; rfl)
    clear htx
    have HN := hid hnew
    have HB := hid hbn
    have HBA := hid hbA
    clear hnew hbn hE hx hx0 c0 c1 s1 s2 hbA hnA hbWA
    go_region_held3 (fun w' => w'.cell? ⟨b, off, none⟩ = some (.slice ka k0.length kc) ∧ w'.cell? ⟨b, off + 1, none⟩ = some (.slice va v0.length vc))
      (first | assumption)
      ((go_at_call 71; refine HT.mono ?_; clear HT; rintro e w2 ⟨v2, rfl, ho2, hb2⟩
        obtain ⟨a2, c2, rfl⟩ := row_form ho2
        have hS2 : w2.cell? ⟨b, off, none⟩ = some (.slice ka k0.length kc) ∧ w2.cell? ⟨b, off + 1, none⟩ = some (.slice va v0.length vc) := ⟨(hb2.cell (p := ⟨b, off, none⟩) (by show b < _; omega)).trans hSA.1, (hb2.cell (p := ⟨b, off + 1, none⟩) (by show b < _; omega)).trans hSA.2⟩))
    have HB2 := hid (HB.out.drew.trans ((HBA.out.mono hbz).trans (hb2.mono (by omega))))
    have HN2 : Hid (w2.heap[w.heap.size]? = some (.cells zero32 23 (0, 0))) := hid ((hb2.block _ (by have := block_lt HN.out; omega)).trans ((HBA.out.block _ (block_lt HN.out)).trans HN.out))
    have HRW := refRaw_any w2.heap.size _ tx w2 (Nat.le_refl _) (shows_of_owns ho2).2 HTL.out
    rw [← HSH.out] at HRW
    replace HRW : Calls Tryd.prog 11 #[.slice a2 tx.length c2] w2 fun e w' => e = .returned (.agg (sumV (leafS (k0, v0)))) ∧ Below w2.heap.size w2 w' := HRW
    obtain ⟨A, hA⟩ : ∃ A, sumV (leafS (k0, v0)) = A := ⟨_, rfl⟩
    rw [hA] at HRW HS
    have HA := hid hA
    have HO2 : Hid (w2.ownsRow (w.heap.size + 1) 5 1 (.slice a2 tx.length c2) tx.length (tx.map by8)) := hid (owns_lower ho2 (fun g hg => by have h1 := (ho2.lt g hg).1; omega))
    clear hA ho2 hb2 HN HB HBA q1 q2 hS0 hS2 hSA hzA
    go_wp2_with (first
      | (go_at_call 11; refine HRW.mono ?_; clear HRW; rintro e w3 ⟨rfl, hb3⟩
         have HB3 := hid (HB2.out.trans (hb3.mono HB2.out.size))
         have HN3 := hid ((hb3.block _ (block_lt HN2.out)).trans HN2.out)
         have hz3 := HB3.out.size
         have HN4 : Hid ((w3.alloc (.cells #[.slice a2 tx.length c2] 24)).heap[w.heap.size]? = some (.cells zero32 23 (0, 0))) := hid ((Below.heap_alloc _ _ _ (block_lt HN3.out)).trans HN3.out)
         have HT4 := hid (one_text (w.heap.size + 1) w3 a2 tx c2 (block_lt HN3.out) (ownsRow_below HO2.out hb3))
         have HB4 : Hid (Below w.heap.size w (w3.alloc (.cells #[.slice a2 tx.length c2] 24))) := hid (HB3.out.alloc hz3 _)
         have HL3 := hid (block_lt HN3.out))
      | (refine wpList_store_row rfl 23 (.tmp 2) (.tmp 34) rfl w.heap.size A rfl rfl 23 zero32 HN4.out HS.out.info HS.out.size HS.out.one ?_)
      | (refine bodyPost_ret (v := .tuple #[.agg A, .slice (some ⟨w3.heap.size, 0, none⟩) 1 1]) (results_row_tmp (p := 2) (u := 3) (ty := 23) rfl _ _ w.heap.size 23 A (0, 0) _ _ rfl (setRow_heap _ _ _ _ _ _ HN4.out) Tryd.underlying23 HS.out.info) rfl ⟨_, by rw [HA.out], by rw [HTX.out]; exact (HT4.out.setRow _ (Nat.lt_succ_self _)).lower (Nat.le_succ _), below_setRow HB4.out (Nat.le_refl _) _⟩))
  | fork p l r ihl ihr =>
    intro hwf v xs w hE hx hn
    obtain ⟨a, c, rfl, hc1, hc2, _⟩ := id hE
    unfold maxLen at hc2
    obtain ⟨hsl, hsr⟩ := side_left hwf hx
    obtain ⟨_, _, hxl⟩ := fork_parts hx
    have hxl' : xs.length = l.ents.length + r.ents.length := by have := congrArg List.length hx; simpa [Tri.ents] using this
    have hp := Tri.place_bound p _ _ hwf
    have pl := Tri.ents_pos l
    have pr := Tri.ents_pos r
    have hn2 : (2 : Int) ≤ (xs.length : Int) := by omega
    have e0 : ((xs.length : Int) == 0) = false := by rw [beq_eq_false_iff_ne]; omega
    have e1 : ((xs.length : Int) == 1) = false := by rw [beq_eq_false_iff_ne]; omega
    have HFK : Hid (∀ W, Below w.heap.size w W → Calls Tryd.prog 72 #[.slice a xs.length c] W fun e w' => e = .returned (.int .i64 p) ∧ w' = W) := hid (fun W h => fork_any p l r hwf _ xs W w.heap.size (hE.below h) hx)
    have hks : ∀ x ∈ xs, x.k.length ≤ 140737488355328 := fun x hm => by have := (Tri.short_of _ hwf x.ent (by rw [← hx]; exact List.mem_map_of_mem hm)).1; simp [EntV.ent] at this; omega
    have HSD : Hid (∀ W (right : Bool), Below w.heap.size w W → Calls Tryd.prog 73 #[.slice a xs.length c, .int .i64 p, .bool right] W fun e w' => ∃ a2 c2, e = .returned (.slice a2 (sideOf p right xs).length c2) ∧ Ents w'.heap.size w' (.slice a2 (sideOf p right xs).length c2) (sideOf p right xs) ∧ Below W.heap.size W w') := hid (fun W right h => by
      have hEW := (hE.below h).mono h.size
      refine (side_any p right _ xs W hEW hp (by omega) hks).mono ?_
      rintro e w' ⟨sv, rfl, ho, hb⟩
      have h2 := ents_of_row hEW hb ho (side_sub p right xs)
      obtain ⟨a2, c2, rfl, _⟩ := id h2
      exact ⟨a2, c2, rfl, h2, hb⟩)
    have HSD0 := hid (fun W h => HSD.out W false h)
    have HSD1 := hid (fun W h => HSD.out W true h)
    clear HSD
    obtain ⟨wl, wr', _⟩ := hwf
    have hll : (sideOf p false xs).length + (sideOf p true xs).length = xs.length := by
      have h1 := congrArg List.length hsl
      have h2 := congrArg List.length hsr
      simp at h1 h2
      omega
    have HIL := hid (fun (W : World) (sv : Value) (h : Ents W.heap.size W sv (sideOf p false xs)) => ihl wl sv (sideOf p false xs) W h hsl (by omega))
    have HIR := hid (fun (W : World) (sv : Value) (h : Ents W.heap.size W sv (sideOf p true xs)) => ihr wr' sv (sideOf p true xs) W h hsr (by omega))
    have HFT := hid (fun W => forkText_any p (rootT l) (rootT r) W hp (rootT_length _) (rootT_length _))
    have HTL : Hid ((forkTx p (rootT l) (rootT r)).length ≤ 1099511627776) := hid (textOf_length _ _)
    have HSH := hid (forkS_sha p (rootT l) (rootT r) (rootT_length _) (rootT_length _))
    have HSL := hid (isSum (rootT l) (rootT_length _))
    have HSR := hid (isSum (rootT r) (rootT_length _))
    have HS := hid (isSum (rootT (.fork p l r)) (rootT_length _))
    simp only [rootT] at HS ⊢
    obtain ⟨A, hA⟩ : ∃ A, sumV (forkS p (rootT l) (rootT r)) = A := ⟨_, rfl⟩
    have HA := hid hA
    rw [hA] at HS
    have HRW : Hid (∀ (W : World) (v : Value), Says W v (forkTx p (rootT l) (rootT r)) → Calls Tryd.prog 11 #[v] W fun e w' => e = .returned (.agg A) ∧ Below W.heap.size W w') := hid (fun W v h => by
      have := refRaw_any W.heap.size v _ W (Nat.le_refl _) h HTL.out
      rw [← HSH.out] at this
      rw [← HA.out]
      exact this)
    generalize sumV (rootT l) = AL at *
    generalize sumV (rootT r) = AR at *
    obtain ⟨X3, hX3⟩ : ∃ X, textsT l = X := ⟨_, rfl⟩
    obtain ⟨X6, hX6⟩ : ∃ X, textsT r = X := ⟨_, rfl⟩
    have hn3 : X3.length + 1 ≤ 2 * xs.length := by have := textsT_length l; rw [hX3] at this; rw [hxl']; omega
    have hn6 : X3.length + X6.length + 2 ≤ 2 * xs.length := by have h1 := textsT_length l; have h2 := textsT_length r; rw [hX3] at h1; rw [hX6] at h2; rw [hxl']; omega
    have HTX : Hid (textsT (.fork p l r) = X3 ++ X6 ++ [forkTx p (rootT l) (rootT r)]) := hid (by rw [← hX3, ← hX6]; rfl)
    rw [hX3] at HIL
    rw [hX6] at HIR
    clear hX3 hX6
    generalize forkTx p (rootT l) (rootT r) = tx at *
    generalize sideOf p false xs = xl at *
    generalize sideOf p true xs = xr at *
    have hnew := World.alloc_heap_new w (.cells zero32 23)
    have hbn : Below w.heap.size w (w.alloc (.cells zero32 23)) := (Below.refl _ _).alloc (Nat.le_refl _) _
    clear hE hx ihl ihr hks hsl hsr wl wr' pl pr hxl hxl' hA HTL HSH
    go_enter Tryd.func31, Tryd.ntmps31
    go_wp2_with fail
    generalize hw1 : w.alloc _ = w1
    replace hbn : Below w.heap.size w w1 := by rw [← hw1]; exact hbn
    replace hnew : w1.heap[w.heap.size]? = some (.cells zero32 23 (0, 0)) := by rw [← hw1]; exact hnew
    clear hw1
    have HN := hid hnew
    have HB := hid hbn
    clear hnew hbn
    refine (HFK.out w1 HB.out).mono ?_
    rintro e w1' ⟨rfl, e1'⟩
    rw [e1']
    clear e1' w1'
    go_wp2_with fail
    refine (HSD0.out w1 HB.out).mono ?_
    rintro e w2 ⟨a2, c2, rfl, E2, hb2⟩
    go_wp2_with fail
    refine (HIL.out w2 _ E2).mono ?_
    rintro e w3 ⟨rv3, rfl, T3, hb3⟩
    obtain ⟨a3, c3, rfl⟩ := T3.form
    have HB3 := hid (HB.out.trans ((hb2.trans (hb3.mono hb2.size)).mono HB.out.size))
    have HN3 := hid ((hb3.block _ (Nat.lt_of_lt_of_le (block_lt HN.out) hb2.size)).trans ((hb2.block _ (block_lt HN.out)).trans HN.out))
    have HT3 := hid (T3.lower (B' := w.heap.size + 1) (Nat.le_trans (block_lt HN.out) hb2.size))
    clear E2 T3 hb2 hb3 HN HB HFK
    go_wp2_with (first
      | (refine wpList_store_row rfl 23 (.tmp 7) (.tmp 44) rfl w3.heap.size AL rfl rfl 23 zero32 (World.alloc_heap_new w3 _) HSL.out.info HSL.out.size HSL.out.one ?_
         generalize hw4 : World.setRow _ w3.heap.size AL = w4
         have H4 : Hid (w4.heap[w3.heap.size]? = some (.cells AL 23 (0, 0))) := hid (by rw [← hw4]; exact (fresh_row w3 _).1)
         have HB4 : Hid (Below w3.heap.size w3 w4) := hid (by rw [← hw4]; exact (fresh_row w3 _).2.1)
         clear hw4))
    obtain ⟨g7, hg7⟩ : ∃ g, w3.heap.size = g := ⟨_, rfl⟩
    have HG7 := hid hg7
    rw [hg7] at H4 ⊢
    clear hg7
    have HB4' := hid (HB3.out.trans (HB4.out.mono HB3.out.size))
    refine (HSD1.out w4 HB4'.out).mono ?_
    rintro e w5 ⟨a5, c5, rfl, E5, hb5⟩
    go_wp2_with fail
    refine (HIR.out w5 _ E5).mono ?_
    rintro e w6 ⟨rv6, rfl, T6, hb6⟩
    obtain ⟨a6, c6, rfl⟩ := T6.form
    have hb46 : Below w4.heap.size w4 w6 := hb5.trans (hb6.mono hb5.size)
    have HB6 := hid (HB4'.out.trans (hb46.mono HB4'.out.size))
    have HN6 := hid ((hb46.block _ (Nat.lt_of_lt_of_le (block_lt HN3.out) HB4.out.size)).trans ((HB4.out.block _ (block_lt HN3.out)).trans HN3.out))
    have HT36 := hid ((HT3.out.new HB4.out).new hb46)
    have HT6 := hid (T6.lower (B' := w.heap.size + 1) (by have h1 := HB4.out.size; have h2 := hb5.size; have h3 := block_lt HN3.out; omega))
    have H76 := hid ((hb46.block _ (block_lt H4.out)).trans H4.out)
    clear E5 T6 hb5 hb6 hb46 HN3 HB3 HB4 HB4' H4 HT3 HSD0 HSD1 HIL HIR
    go_wp2_with (first
      | (refine wpList_store_row rfl 23 (.tmp 9) (.tmp 51) rfl w6.heap.size AR rfl rfl 23 zero32 (World.alloc_heap_new w6 _) HSR.out.info HSR.out.size HSR.out.one ?_
         generalize hw7 : World.setRow _ w6.heap.size AR = w7
         have H7 : Hid (w7.heap[w6.heap.size]? = some (.cells AR 23 (0, 0))) := hid (by rw [← hw7]; exact (fresh_row w6 _).1)
         have HB7 : Hid (Below w6.heap.size w6 w7) := hid (by rw [← hw7]; exact (fresh_row w6 _).2.1)
         have H77 := hid ((HB7.out.block _ (block_lt H76.out)).trans H76.out)
         clear hw7)
      | (refine wpList_load_row rfl 23 (.tmp 7) rfl g7 rfl 23 AL (0, 0) _ H77.out Tryd.underlying23 rfl HSL.out.info ?_)
      | (refine wpList_load_row rfl 23 (.tmp 9) rfl w6.heap.size rfl 23 AR (0, 0) _ H7.out Tryd.underlying23 rfl HSR.out.info ?_))
    refine (HFT.out w7).mono ?_
    rintro e w8 ⟨v8, rfl, ho8, hb8⟩
    obtain ⟨a8, c8, rfl⟩ := row_form ho8
    have hb68 : Below w6.heap.size w6 w8 := HB7.out.trans (hb8.mono HB7.out.size)
    have HB8 := hid (HB6.out.trans (hb68.mono HB6.out.size))
    have HN8 := hid ((hb68.block _ (block_lt HN6.out)).trans HN6.out)
    have HT38 := hid (HT36.out.new hb68)
    have HT68 := hid (HT6.out.new hb68)
    have HR8 := HRW.out w8 _ (shows_of_owns ho8).2
    have HO8 : Hid (w8.ownsRow (w.heap.size + 1) 5 1 (.slice a8 tx.length c8) tx.length (tx.map by8)) := hid (owns_lower ho8 (fun g hg => by have h1 := (ho8.lt g hg).1; have h2 := HB7.out.size; have h3 := block_lt HN6.out; omega))
    clear ho8 hb8 hb68 HB7 H7 H77 H76 HN6 HB6 HT36 HT6 HFT
    obtain ⟨i0, hi, hz0, hz1, hz2⟩ := info_parts Tryd.infoBytes4
    go_wp2_with (first
      | (go_at_call 11; refine HR8.mono ?_; clear HR8; rintro e w9 ⟨rfl, hb9⟩
         obtain ⟨vs3, V3⟩ := (HT38.out.new hb9).ex
         obtain ⟨vs6, V6⟩ := (HT68.out.new hb9).ex
         have o3 := V3.1
         have o6 := V6.1
         have p6 := V6.one
         have HV3 := hid V3
         have HV6 := hid V6
         have HO9 := hid (ownsRow_below HO8.out hb9)
         clear V3 V6
         have hz9 := hb9.size
         have hz8 := HB8.out.size
         have hw9 := block_lt HN8.out)
      | (at_builtin; refine wpList_append_rows4 _ rfl (.tmp 59) (.tmp 60) 32 rfl (w.heap.size + 1) 24 i0 Tryd.underlying32 hi hz0 hz1 hz2 _ X3.length vs3 rfl o3 _ _ X6.length vs6 rfl o6 p6 (by omega) (by omega) ?_
         intro vA wA oA gA _
         obtain ⟨aA, cA, rfl⟩ := row_form oA
         have hlow : ∀ q, (Value.slice a3 X3.length c3).ownBlock = some q → w.heap.size + 1 ≤ q := fun q hq => (o3.lt q hq).1
         have hbA : Below (w.heap.size + 1) w9 wA := (Below.refl _ _).grown gA (by omega) hlow
         have hzA := hbA.size
         have hBA : Below w.heap.size w wA := (HB8.out.trans (hb9.mono hz8)).trans (hbA.mono (by omega))
         have hNA : wA.heap[w.heap.size]? = some (.cells zero32 23 (0, 0)) := (hbA.block _ (by omega)).trans ((hb9.block _ hw9).trans HN8.out)
         have HOA := hid oA
         have HVA := hid (txv_app HV3.out HV6.out.2.1 HV6.out.2.2 gA oA)
         have HOA8 : Hid (wA.ownsRow (w.heap.size + 1) 5 1 (.slice a8 tx.length c8) tx.length (tx.map by8)) := hid ((Spares.of_grown (S := fun i => (Value.slice a3 X3.length c3).ownBlock = some i) gA (fun k e => e)).row HO9.out (fun i hi e => by
           obtain ⟨x1, y1⟩ := row_type HO9.out hi
           obtain ⟨x2, y2⟩ := row_type o3 e
           rw [y1] at y2; cases y2))
         have HBA := hid hBA
         have HNA := hid hNA
         clear o3 o6 oA gA hlow hbA hBA hNA hb9)
      | (at_builtin; refine wpList_append_own _ rfl (.tmp 61) (.tmp 63) 32 rfl (w.heap.size + 1) 24 i0 (.slice none 0 0) 1 24 Tryd.underlying32 hi hz0 hz1 hz2 rfl (by decide) _ (X3.length + X6.length) (vs3 ++ vs6) rfl ((Spares.of_new (S := fun _ => False) ((Below.refl _ _).alloc (Nat.le_refl _) _)).row HOA.out (fun _ _ => id)) ⟨wA.heap.size, 0, none⟩ 1 1 [.slice a8 tx.length c8] rfl rfl (by have := World.news_of_block (World.alloc_heap_new wA (.cells #[.slice a8 tx.length c8] 24)); simpa using this) (by intro u hu; simp at hu; subst hu; rfl) (by unfold maxLen; omega) (by omega) (by simp; omega) ?_
         intro vB wB oB gB _
         obtain ⟨aB, cB, rfl⟩ := row_form oB
         have hlow : ∀ q, (Value.slice aA (X3.length + X6.length) cA).ownBlock = some q → w.heap.size + 1 ≤ q := fun q hq => (HOA.out.lt q hq).1
         have hbB : Below (w.heap.size + 1) wA wB := ((Below.refl _ _).alloc (by omega) _).grown gB (by simp; omega) hlow
         have HBB := hid (HBA.out.trans (hbB.mono (by omega)))
         have HNB := hid ((hbB.block _ (by omega)).trans HNA.out)
         have HTB : Hid (TxRow (w.heap.size + 1) wB (.slice aB (X3.length + X6.length + 1) cB) (X3 ++ X6 ++ [tx])) := hid ⟨⟨_, by
           have hbN : Below wA.heap.size wA (wA.alloc (.cells #[.slice a8 tx.length c8] 24)) := (Below.refl _ _).alloc (Nat.le_refl _) _
           have hV := HVA.out.spared (Spares.of_new (S := fun _ => False) hbN) (fun _ _ _ h => h)
           have hO := ownsRow_below HOA8.out hbN
           exact txv_app hV (X' := [tx]) (vs' := [.slice a8 tx.length c8]) rfl (fun j u r hu hr => by
             match j, hu, hr with
             | 0, hu, hr => simp at hu hr; subst hu hr; exact hO) gB (by rw [List.length_append]; exact oB)⟩⟩
         clear oB gB hlow hbB)
      | (refine wpList_store_row rfl 23 (.tmp 2) (.tmp 58) rfl w.heap.size A rfl rfl 23 zero32 HNB.out HS.out.info HS.out.size HS.out.one ?_)
      | (refine bodyPost_ret (v := .tuple #[.agg A, .slice aB (X3.length + X6.length + 1) cB]) (results_row_tmp (p := 2) (u := 3) (ty := 23) rfl _ _ w.heap.size 23 A (0, 0) _ _ rfl (setRow_heap _ _ _ _ _ _ HNB.out) Tryd.underlying23 HS.out.info) rfl ⟨_, by rw [HA.out], by rw [HTX.out]; exact (HTB.out.setRow _ (Nat.lt_succ_self _)).lower (Nat.le_succ _), below_setRow HBB.out (Nat.le_refl _) _⟩))
end Go.Proofs.YtmafaioohiaenaaDoor
