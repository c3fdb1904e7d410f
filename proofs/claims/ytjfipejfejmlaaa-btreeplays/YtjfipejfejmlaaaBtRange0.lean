/- Range and Pages: what a round has in hand. -/
import Derived.Test.YtjfipejfejmlaaaBtLeaves
import Derived.Test.YtjfipejfejmlaaaBtCloneA
namespace Go.Proofs.Ytjfipejfejmlaaa
open Go.RowKit Go.Shelf
set_option linter.unusedVariables false
set_option linter.unusedSimpArgs false
set_option maxRecDepth 20000

theorem run_load_slice {P : Program} (w : World) (ty e : TypeId) (hu : P.underlying ty = some (.slice e)) (ad : Addr) (v : Value) (hc : w.cell? ad = some v) : (loadVar ty ad).run P w = .ok v w := by
  simp [loadVar, isAgg, Sem.run_bind, run_underlying hu, hc]

theorem results_cell_slice {P : Program} {fn : Func} {p : Tmp} {ty e : TypeId} (h : fn.results = #[.cell p ty]) (hu : P.underlying ty = some (.slice e)) (tmps : Array Value) (w : World) (ad : Addr) (v : Value) (hp : tmps.getD p undef = .pointer (some ad)) (hc : w.cell? ad = some v) :
    (results fn tmps).run P w = .ok v w := by
  have hp' : tmps[p]?.getD undef = .pointer (some ad) := by simpa using hp
  simp [results, h, hp', asAddr, run_load_slice w ty e hu ad v hc]

/-- What holds of every leaf. -/
theorem leaf_facts {K : Nat → Prop} {w : World} {H : Nat} {T : Pg H} (hl : Lies (H + 1) K w T) (hr : RisesV (flat (H + 1) T)) (hf : ∀ x ∈ flat (H + 1) T, Fine x.ent) : ∀ q ∈ lvs H T, Lies 1 K w q ∧ RisesV q.es ∧ (∀ y ∈ (q.es : List EntV), Fine y.ent) ∧ q.es.length ≤ (flat (H + 1) T).length := fun q hq => by
  obtain ⟨s, t, hst⟩ := List.append_of_mem hq
  have h1 := lvs_flat H T
  rw [hst, List.flatMap_append, List.flatMap_cons] at h1
  have hsub : List.Sublist (q.es : List EntV) (flat (H + 1) T) := by
    rw [← h1]
    exact (List.sublist_append_left _ _).trans (List.sublist_append_right _ _)
  exact ⟨lvs_lies hl q hq, List.Pairwise.sublist hsub hr, fun y hy => hf y (hsub.subset hy), hsub.length_le⟩

theorem Rowed.spares {S : Nat → Prop} {B : Nat} {W W' : World} {sv : Value} {xs : List EntV} (h : Rowed B W sv xs) (hk : Spares S W W') (hS : ∀ i, S i → i < B) : Rowed B W' sv xs :=
  ⟨hk.row h.row (fun g hg hs => by have := (h.row.lt g hg).1; have := hS g hs; omega), fun x hx => ⟨(h.cps x hx).1.spares hk hS (Nat.le_refl _), (h.cps x hx).2.spares hk hS (Nat.le_refl _)⟩, h.sep⟩

theorem kpL_of_spares {S : Nat → Prop} {n : Nat} {W W' : World} (h : Spares S W W') (hn : ∀ i, S i → n ≤ i) (hz : n ≤ W.heap.size) (hS : ∀ i, S i → ∃ cs t, W.heap[i]? = some (.cells cs t (0, 0)) ∧ ¬ (t = 84 ∨ t = 58 ∨ t = 94)) : KpL n W W' :=
  ⟨h.below hn hz, fun k cs t ht hc => (h.block k (block_lt hc) (fun hs => by
    obtain ⟨cs', t', hc', hne⟩ := hS k hs
    rw [hc] at hc'
    cases hc'
    exact hne ht)).trans hc⟩

theorem row_typed {W : World} {B e s n : Nat} {v : Value} {xs : List Value} (h : W.ownsRow B e s v n xs) {g : Nat} (hg : v.ownBlock = some g) : ∃ cs, W.heap[g]? = some (.cells cs e (0, 0)) := by
  rcases h.2 with ⟨rfl, _⟩ | ⟨g', cap, cur, rfl, _, hg', _⟩
  · cases hg
  · have : g' = g := by simpa [Value.ownBlock] using hg
    subst this
    exact ⟨_, hg'⟩

/-- Between two entries of Range. -/
structure RgI (w : World) (cs0 : Array Value) (f : Ent → Bool) (told : List EntV) (W : World) (sv : Value) (xs : List EntV) : Prop where
  sp : W.heap[w.heap.size]? = some (.cells cs0 32 (0, 0))
  res : W.heap[w.heap.size + 1]? = some (.cells #[.slice none 0 0] 27 (0, 0))
  box : W.heap[w.heap.size + 2]? = some (.cells #[sv] 27 (0, 0))
  rowd : Rowed (w.heap.size + 5) W sv xs
  same : xs.map EntV.ent = (entsV told).filter f
  below : Below w.heap.size w W
  big : w.heap.size + 5 ≤ W.heap.size

/-- What is left where the answer is laid. -/
structure RgX (w : World) (L : List Ent) (W : World) (sv : Value) (xs : List EntV) : Prop where
  res : W.heap[w.heap.size + 1]? = some (.cells #[sv] 27 (0, 0))
  rowd : Rowed (w.heap.size + 5) W sv xs
  same : xs.map EntV.ent = L
  below : Below w.heap.size w W
  big : w.heap.size + 5 ≤ W.heap.size

theorem RgI.new {w W W' : World} {cs0 : Array Value} {f : Ent → Bool} {told : List EntV} {sv : Value} {xs : List EntV} (h : RgI w cs0 f told W sv xs) (hb : Below W.heap.size W W') : RgI w cs0 f told W' sv xs :=
  ⟨(hb.block _ (block_lt h.sp)).trans h.sp, (hb.block _ (block_lt h.res)).trans h.res, (hb.block _ (block_lt h.box)).trans h.box, h.rowd.new hb, h.same, h.below.trans (hb.mono h.below.size), Nat.le_trans h.big hb.size⟩

theorem rowed_own {B B' : Nat} {W W' : World} {sv : Value} {xs : List EntV} {row : Option Nat} (h : Rowed B' W sv xs) (hg : W.grownBy W' row) (hr : ∀ r, row = some r → B ≤ r ∧ ∃ o : Obj, W.heap[r]? = some o ∧ o.isCells = false) : Rowed B' W' sv xs :=
  ⟨row_own h.row hg hr, fun x hx => ⟨row_own (h.cps x hx).1 hg hr, row_own (h.cps x hx).2 hg hr⟩, h.sep⟩

theorem rgI_own {w : World} {cs0 : Array Value} {f : Ent → Bool} {g : Nat → List EntV} {B : Nat} (hB : w.heap.size ≤ B) : OwnFrom B (fun k W => ∃ sv xs, RgI w cs0 f (g k) W sv xs) := fun s W W' row hs hg hr => by
  obtain ⟨sv, xs, h⟩ := hs
  exact ⟨sv, xs, cells_own () W W' row h.sp hg hr, cells_own () W W' row h.res hg hr, cells_own () W W' row h.box hg hr, rowed_own h.rowd hg hr, h.same, ownFrom_below (Nat.le_refl _) hB () W W' row h.below hg hr, Nat.le_trans h.big hg.size⟩

theorem rgX_own {w : World} {L : List Ent} {B : Nat} (hB : w.heap.size ≤ B) {β : Type} : OwnFrom B (fun (_ : β) W => ∃ sv xs, RgX w L W sv xs) := fun s W W' row hs hg hr => by
  obtain ⟨sv, xs, h⟩ := hs
  exact ⟨sv, xs, cells_own () W W' row h.res hg hr, rowed_own h.rowd hg hr, h.same, ownFrom_below (Nat.le_refl _) hB () W W' row h.below hg hr, Nat.le_trans h.big hg.size⟩

/-- One entry more. -/
theorem rg_step {w W W2 W3 : World} {cs0 : Array Value} {f : Ent → Bool} {told xs : List EntV} {sv sv' kv' vv' : Value} (B : Nat) (hI : RgI w cs0 f told W sv xs) (y : EntV) (hf : f y.ent = true) (h1 : Below W.heap.size W W2) (hk : Copy W.heap.size W2 kv' y.k) (hv : Copy W.heap.size W2 vv' y.v)
    (hap : ∀ g, kv'.ownBlock = some g → vv'.ownBlock ≠ some g) (hg : W2.grownBy W3 sv.ownBlock) (hown : W3.ownsRow (w.heap.size + 5) 46 2 sv' (xs.length + 1) (xs.flatMap EntV.two ++ [kv', vv'])) :
    KeepsFrom B W (W3.setCell ⟨w.heap.size + 2, 0, none⟩ sv') ∧ KpL w.heap.size W (W3.setCell ⟨w.heap.size + 2, 0, none⟩ sv') ∧ RgI w cs0 f (told ++ [y]) (W3.setCell ⟨w.heap.size + 2, 0, none⟩ sv') sv' (xs ++ [⟨kv', vv', y.k, y.v⟩]) := by
  have hbig := hI.big
  have hlow : ∀ i, sv.ownBlock = some i → w.heap.size + 5 ≤ i ∧ i < W.heap.size := fun i hi => hI.rowd.row.lt i hi
  have sp3 : Spares (fun i => sv.ownBlock = some i) W W3 := (Spares.of_new h1).andThen (Spares.of_grown (S := fun i => sv.ownBlock = some i) hg (fun k e => e)) (fun i hi => .inl hi)
  have s4 := spares_set W3 ⟨w.heap.size + 2, 0, none⟩ sv'
  have sp : Spares (fun i => i = w.heap.size + 2 ∨ sv.ownBlock = some i) W (W3.setCell ⟨w.heap.size + 2, 0, none⟩ sv') := (sp3.mono fun i hi => .inr hi).andThen s4 (fun i hi => .inl (.inl hi))
  have hS : ∀ i, (i = w.heap.size + 2 ∨ sv.ownBlock = some i) → w.heap.size + 2 ≤ i ∧ ∃ cs t, W.heap[i]? = some (.cells cs t (0, 0)) ∧ ¬ (t = 84 ∨ t = 58 ∨ t = 94) := fun i hi => by
    rcases hi with rfl | hi
    · exact ⟨Nat.le_refl _, _, _, hI.box, by decide⟩
    · obtain ⟨cs, hc⟩ := row_typed hI.rowd.row hi
      exact ⟨by have := (hlow i hi).1; omega, cs, _, hc, by decide⟩
  have hR := rowed_snoc (k := y.k) (v := y.v) hI.rowd hbig h1 hk hv hap hg hown
  have hbox3 := (sp3.block _ (block_lt hI.box) (fun e => by have := (hlow _ e).1; omega)).trans hI.box
  have hne : ∀ i, i < w.heap.size + 2 → ¬ (i = w.heap.size + 2 ∨ sv.ownBlock = some i) := fun i hi h => by
    rcases h with h | h
    · omega
    · have := (hlow i h).1; omega
  refine ⟨keepsFrom_of sp (fun i hi => ?_), kpL_of_spares sp (fun i hi => by have := (hS i hi).1; omega) (by omega) (fun i hi => (hS i hi).2), ?_⟩
  · obtain ⟨_, cs, t, hc, _⟩ := hS i hi
    exact ⟨cs, t, _, hc⟩
  · refine ⟨(sp.block _ (block_lt hI.sp) (hne _ (by omega))).trans hI.sp, (sp.block _ (block_lt hI.res) (hne _ (by omega))).trans hI.res, heap_setCell_same _ _ _ _ _ _ hbox3, hR.spares s4 (fun i hi => by have e : i = w.heap.size + 2 := hi; omega), ?_, hI.below.trans (sp.below (fun i hi => by have := (hS i hi).1; omega) (by omega)), Nat.le_trans hbig sp.size⟩
    have e : entsV (told ++ [y]) = entsV told ++ [y.ent] := by simp [entsV]
    rw [List.map_append, hI.same, e, List.filter_append, List.filter_cons_of_pos hf]
    rfl

/-- The answer is laid. -/
theorem rg_end {w W : World} {cs0 : Array Value} {f : Ent → Bool} {told xs : List EntV} {sv : Value} (B : Nat) (hI : RgI w cs0 f told W sv xs) {L : List Ent} (hL : (entsV told).filter f = L) :
    KeepsFrom B W (W.setCell ⟨w.heap.size + 1, 0, none⟩ sv) ∧ RgX w L (W.setCell ⟨w.heap.size + 1, 0, none⟩ sv) sv xs := by
  have hbig := hI.big
  have s4 := spares_set W ⟨w.heap.size + 1, 0, none⟩ sv
  refine ⟨keepsFrom_of s4 (fun i hi => by have e : i = w.heap.size + 1 := hi; subst e; exact ⟨_, _, _, hI.res⟩), heap_setCell_same _ _ _ _ _ _ hI.res, hI.rowd.spares s4 (fun i hi => by have e : i = w.heap.size + 1 := hi; omega), hI.same.trans hL, hI.below.trans (s4.below (fun i hi => by have e : i = w.heap.size + 1 := hi; omega) (by omega)), Nat.le_trans hbig s4.size⟩

/-- What is kept of a row. -/
theorem range_kept {a b : List UInt8} {en : Bool} {y : EntV} (h1 : Op.bytesLess y.k a = false) (h2 : en = true → Op.bytesLess y.k b = true) : (fun x : Ent => inSp a b en x.1) y.ent = true := by
  show inSp a b en y.k = true
  unfold inSp
  rw [h1]
  cases en with
  | false => rfl
  | true => rw [h2 rfl]; rfl

theorem range_skip {a b : List UInt8} {en : Bool} {xs : List EntV} (h : ∀ y ∈ xs, Op.bytesLess y.k a = true) : (entsV xs).filter (fun x : Ent => inSp a b en x.1) = [] := by
  rw [List.filter_eq_nil_iff]
  intro e he
  obtain ⟨y, hy, rfl⟩ := List.mem_map.1 he
  show ¬ inSp a b en y.k = true
  unfold inSp
  rw [h y hy]
  simp

theorem range_past {a b : List UInt8} {xs : List EntV} (h : ∀ y ∈ xs, Op.bytesLess y.k b = false) : (entsV xs).filter (fun x : Ent => inSp a b true x.1) = [] := by
  rw [List.filter_eq_nil_iff]
  intro e he
  obtain ⟨y, hy, rfl⟩ := List.mem_map.1 he
  show ¬ inSp a b true y.k = true
  unfold inSp
  rw [h y hy]
  simp

theorem range_break {F A told tl : List EntV} {y : EntV} {a b : List UInt8} (hr : RisesV F) (hF : F = A ++ told ++ y :: tl) (hA : ∀ z ∈ A, Op.bytesLess z.k a = true) (hy : Op.bytesLess y.k b = false) : (entsV told).filter (fun x : Ent => inSp a b true x.1) = rangeL (entsV F) a b true := by
  have hp := range_past (a := a) (b := b) (xs := y :: tl) (fun z hz => by
    rcases List.mem_cons.1 hz with rfl | hz
    · exact hy
    · rw [hF] at hr
      unfold RisesV at hr
      have h1 := (List.pairwise_cons.1 (List.pairwise_append.1 hr).2.1).1 z hz
      cases hc : Op.bytesLess z.k b with
      | false => rfl
      | true => have := less_trans _ _ _ h1 hc; rw [hy] at this; cases this)
  have hs := range_skip (a := a) (b := b) (en := true) (xs := A) hA
  unfold rangeL
  rw [hF]
  simp only [entsV, List.map_append, List.filter_append] at hp hs ⊢
  rw [hs, hp, List.nil_append, List.append_nil]

theorem RgI.skip {w W : World} {cs0 : Array Value} {a b : List UInt8} {en : Bool} {told ts : List EntV} {sv : Value} {xs : List EntV} (h : RgI w cs0 (fun x => inSp a b en x.1) told W sv xs) (ht : ∀ z ∈ ts, Op.bytesLess z.k a = true) : RgI w cs0 (fun x => inSp a b en x.1) (told ++ ts) W sv xs := by
  have hs := range_skip (a := a) (b := b) (en := en) (xs := ts) ht
  refine ⟨h.sp, h.res, h.box, h.rowd, ?_, h.below, h.big⟩
  rw [h.same]
  simp only [entsV, List.map_append, List.filter_append] at hs ⊢
  rw [hs, List.append_nil]

theorem RgI.few {w W : World} {cs0 : Array Value} {f : Ent → Bool} {told : List EntV} {sv : Value} {xs : List EntV} (h : RgI w cs0 f told W sv xs) : xs.length ≤ told.length := by
  have := congrArg List.length h.same
  rw [List.length_map] at this
  rw [this]
  exact Nat.le_trans (List.length_filter_le _ _) (by rw [entsV, List.length_map]; exact Nat.le_refl _)
end Go.Proofs.Ytjfipejfejmlaaa
