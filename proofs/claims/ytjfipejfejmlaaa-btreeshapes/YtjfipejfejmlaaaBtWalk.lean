/- Contract of Tree.walk. -/
import Derived.Test.YtjfipejfejmlaaaBtHeld
namespace Go.Proofs.Ytjfipejfejmlaaa
open Go.RowKit Go.Shelf
set_option linter.unusedVariables false
set_option linter.unusedSimpArgs false
set_option maxRecDepth 20000
attribute [local go_sem] Oper.semAt_some

def RisesV (xs : List EntV) : Prop := xs.Pairwise fun a b => Op.bytesLess a.k b.k = true

theorem risesV_iff (xs : List EntV) : Tri.Rises (xs.map EntV.ent) ↔ RisesV xs := by
  unfold Tri.Rises RisesV
  rw [List.pairwise_map]
  rfl

theorem fk_le {h : Nat} {e : Elem h} (hr : RisesV (flat h e)) : ∀ x ∈ flat h e, Op.bytesLess x.k (fk h e) = false := fun x hx => by
  unfold fk
  rcases hf : flat h e with _ | ⟨y, ys⟩
  · rw [hf] at hx; cases hx
  · rw [hf] at hx hr
    show Op.bytesLess x.k y.k = false
    rcases List.mem_cons.1 hx with rfl | hx
    · exact less_irrefl _
    · have h1 := (List.pairwise_cons.1 hr).1 x hx
      cases hc : Op.bytesLess x.k y.k with
      | false => rfl
      | true => have := less_trans _ _ _ h1 hc; rw [less_irrefl] at this; cases this

theorem fk_mem {h : Nat} {e : Elem h} (ho : OkE h e) : ∃ y ∈ flat h e, y.k = fk h e := by
  have := flat_ne ho
  unfold fk
  rcases hf : flat h e with _ | ⟨y, ys⟩
  · exact absurd hf this
  · exact ⟨y, by simp, rfl⟩

/-- Where a walk goes on. -/
theorem step_keys {h : Nat} {kids pre post : List (Pg h)} {q : Pg h} {key : List UInt8} {bf af : List EntV} (hk : kids = pre ++ q :: post) (hr : RisesV (bf ++ flatL (h + 1) kids ++ af)) (hok : ∀ r ∈ kids, OkE (h + 1) r)
    (hq : pre = [] ∨ Op.bytesLess key (fk (h + 1) q) = false) (hpost : ∀ r ∈ post, Op.bytesLess key (fk (h + 1) r) = true) (hb : ∀ x ∈ bf, Op.bytesLess x.k key = true) (ha : ∀ x ∈ af, Op.bytesLess key x.k = true) :
    (∀ x ∈ bf ++ flatL (h + 1) pre, Op.bytesLess x.k key = true) ∧ ∀ x ∈ flatL (h + 1) post ++ af, Op.bytesLess key x.k = true := by
  subst hk
  rw [flatL_append, flatL_cons] at hr
  unfold RisesV at hr
  simp only [List.pairwise_append, List.mem_append] at hr
  obtain ⟨⟨h1, ⟨h2, ⟨h3, h4, h5⟩, h6⟩, h7⟩, h8, h9⟩ := hr
  refine ⟨fun x hx => ?_, fun x hx => ?_⟩
  · rcases List.mem_append.1 hx with hx | hx
    · exact hb x hx
    · rcases hq with rfl | hq
      · cases hx
      · obtain ⟨y, hy, hyk⟩ := fk_mem (hok q (by simp))
        have := h6 x hx y (.inl hy)
        rw [hyk] at this
        exact less_le this hq
  · rcases List.mem_append.1 hx with hx | hx
    · obtain ⟨r, hr, hx⟩ := List.mem_flatMap.1 hx
      have hrr : RisesV (flat (h + 1) r) := by
        have : List.Sublist (flat (h + 1) r) (flatL (h + 1) post) := by
          obtain ⟨s, t, rfl⟩ := List.append_of_mem hr
          rw [flatL_append, flatL_cons]
          exact (List.sublist_append_left _ _).trans (List.sublist_append_right _ _)
        exact List.Pairwise.sublist this h4
      have h10 := fk_le hrr x hx
      exact less_le (hpost r hr) h10
    · exact ha x hx

theorem cmp_le : ∀ a b : List UInt8, decide (Lib.compareBytes a b ≤ 0) = !Op.bytesLess b a
  | [], [] => rfl
  | [], _ :: _ => rfl
  | _ :: _, [] => rfl
  | x :: a, y :: b => by
    have ih := cmp_le a b
    simp only [Lib.compareBytes, Op.bytesLess]
    by_cases h1 : x < y
    · have h2 : ¬ y < x := fun h => absurd (UInt8.lt_trans h1 h) (UInt8.lt_irrefl _)
      have : (y == x) = false := by
        rw [beq_eq_false_iff_ne]; intro e; subst e; exact absurd h1 (UInt8.lt_irrefl _)
      simp [h1, h2, this]
    · by_cases h2 : y < x
      · simp [h1, h2]
      · have : x = y := UInt8.le_antisymm (UInt8.not_lt.1 h2) (UInt8.not_lt.1 h1)
        subst this
        simp [UInt8.lt_irrefl, ih]

/-- May a walk go on at this place? -/
def goodK {h : Nat} (kids : List (Pg h)) (key : List UInt8) (i : Nat) : Bool := i == 0 || !Op.bytesLess key (((kids[i]?).map (fk (h + 1))).getD [])

def lenAt (w : World) (b : Nat) : Nat := match w.cell? ⟨b, 0, none⟩ with | some (.slice _ l _) => l | _ => 0

theorem Try.infoTurnZ : (Try.prog.info? 84).map (fun i => (i.zero, i.size, i.bytes)) = some (some (.agg #[.pointer none, .int .i64 0]), 2, 16) := by kernel_rfl

theorem turnC_snoc (L : List (Nat × Nat)) (b k : Nat) : turnC (L ++ [(b, k)]) = turnC L ++ [.pointer (some ⟨b, 0, none⟩), .int .i64 (k : Int)] := by simp [turnC]
theorem turnC_length (L : List (Nat × Nat)) : (turnC L).length = L.length * 2 := by
  induction L with
  | nil => rfl
  | cons x L ih =>
    rw [show x :: L = [x] ++ L from rfl]
    simp only [turnC, List.flatMap_append, List.length_append] at ih ⊢
    rw [ih]
    simp
    omega

/-- What a walk has in hand. -/
structure WalkI (H : Nat) (T : Pg H) (K : Nat → Prop) (w : World) (key : List UInt8) (kv : Value) {h : Nat} (c : Ctx h) (p : Pg h) (wv : Value) (Ds : List Nat) (w' : World) : Prop where
  plug : c.plug p = ⟨H, T⟩
  kbox : w'.heap[w.heap.size]? = some (.cells #[kv] 30 (0, 0))
  wbox : w'.heap[w.heap.size + 1]? = some (.cells #[wv] 58 (0, 0))
  pbox : w'.heap[w.heap.size + 2]? = some (.cells #[ptr p.pb] 53 (0, 0))
  row : w'.ownsRow (w.heap.size + 3) 84 2 wv c.turns.length (turnC c.turns)
  bef : ∀ x ∈ c.before, Op.bytesLess x.k key = true
  aft : ∀ x ∈ c.after, Op.bytesLess key x.k = true
  below : Below w.heap.size w w'
  big : w.heap.size + 3 ≤ w'.heap.size
  waits : Waits w' Ds
  high : ∀ D ∈ Ds, w.heap.size + 3 ≤ D

theorem told_post {β : Type} {L : List β} {pre' : List (En L)} {x : En L} (hSp : (pre' ++ [x]).map (·.1) <+: enumB L) : x.1.1 < L.length ∧ ∀ i, x.1.1 < i → i < L.length → ∃ y ∈ pre', y.1.1 = i := by
  obtain ⟨t, ht⟩ := hSp
  have hlen : pre'.length < L.length := by
    have := congrArg List.length ht
    rw [enumB_length] at this
    simp at this
    omega
  have hat : ∀ j, j < pre'.length + 1 → (enumB L)[j]? = ((pre' ++ [x]).map (·.1))[j]? := fun j hj => by
    rw [← ht, List.getElem?_append_left (by simpa using hj)]
  have hx := hat pre'.length (by omega)
  rw [enumB_at L _ hlen] at hx
  have hx2 : ((pre' ++ [x]).map (·.1))[pre'.length]? = some x.1 := by simp
  rw [hx2] at hx
  have hx1 : L.length - 1 - pre'.length = x.1.1 := congrArg (·.1) (Option.some.inj hx)
  refine ⟨by omega, fun i h1 h2 => ?_⟩
  have hj := hat (L.length - 1 - i) (by omega)
  rw [enumB_at L _ (by omega), List.map_append, List.getElem?_append_left (by simp; omega), List.getElem?_map] at hj
  rw [List.getElem?_eq_getElem (show L.length - 1 - i < pre'.length by omega)] at hj
  simp only [Option.map_some, Option.some.injEq] at hj
  refine ⟨_, List.getElem_mem (show L.length - 1 - i < pre'.length by omega), ?_⟩
  rw [← hj]
  show L.length - 1 - (L.length - 1 - i) = i
  omega

theorem told_all {β : Type} {L : List β} {ys : List (En L)} (hS : ys.map (·.1) = enumB L) (hL : 0 < L.length) : ∃ y ∈ ys, y.1.1 = 0 := by
  have h := enumB_at L (L.length - 1) (by omega)
  rw [← hS, List.getElem?_map] at h
  obtain ⟨y, hy, he⟩ := Option.map_eq_some_iff.1 h
  refine ⟨y, List.mem_of_getElem? hy, ?_⟩
  rw [he]
  show L.length - 1 - (L.length - 1) = 0
  omega

/-- The walk goes on: what it has in hand then. -/
theorem walk_next {H : Nat} {T : Pg H} {K : Nat → Prop} {w : World} {key : List UInt8} {kv : Value} {h : Nat} {c : Ctx (h + 1)} {p : Pg (h + 1)} {wv wv' : Value} {Ds : List Nat} {w' w4 W : World} {pb D : Nat} {pre' : List (En (p.es.map PgOf.pb))} {x : En (p.es.map PgOf.pb)}
    (hI : WalkI H T K w key kv c p wv Ds w') (hr : RisesV (flat (H + 1) T)) (hok : ∀ e ∈ p.es, OkE (h + 1) e) (hpb : p.pb = pb) (hbn : Below w'.heap.size w' w4) (hz4 : w4.heap.size = w'.heap.size + 1)
    (hSp : (pre' ++ [x]).map (·.1) <+: enumB (p.es.map PgOf.pb)) (hno : ∀ y ∈ pre', goodK (p.es : List (Pg h)) key y.1.1 = false) (hyes : goodK (p.es : List (Pg h)) key x.1.1 = true)
    (hsp : Spares (fun i => i = w.heap.size + 1 ∨ i = w.heap.size + 2 ∨ wv.ownBlock = some i) w4 W) (hwb : W.heap[w.heap.size + 1]? = some (.cells #[wv'] 58 (0, 0))) (hpb' : W.heap[w.heap.size + 2]? = some (.cells #[ptr x.1.2] 53 (0, 0)))
    (hrow : W.ownsRow (w.heap.size + 3) 84 2 wv' (c.turns.length + 1) (turnC (c.turns ++ [(pb, x.1.1)]))) (hD : w4.heap.size ≤ D) (hK : W.heap[D]? = some (.deferred (some []))) :
    ∃ c' : Ctx h, ∃ q : Pg h, c'.turns.length = c.turns.length + 1 ∧ WalkI H T K w key kv c' q wv' (D :: Ds) W := by
  obtain ⟨hxl, hpost⟩ := told_post hSp
  have hxl' : x.1.1 < p.es.length := by simpa using hxl
  have hq : (p.es : List (Pg h))[x.1.1]? = some (p.es : List (Pg h))[x.1.1] := List.getElem?_eq_getElem hxl'
  obtain ⟨q, hqq⟩ : ∃ q, (p.es : List (Pg h))[x.1.1] = q := ⟨_, rfl⟩
  rw [hqq] at hq
  have hqp : q.pb = x.1.2 := by
    have := x.2
    rw [List.getElem?_map, hq] at this
    simpa using this
  have hsplit : (p.es : List (Pg h)) = (p.es : List (Pg h)).take x.1.1 ++ q :: (p.es : List (Pg h)).drop (x.1.1 + 1) := by
    rw [← hqq, ← List.drop_eq_getElem_cons hxl', List.take_append_drop]
  have htl : ((p.es : List (Pg h)).take x.1.1).length = x.1.1 := by rw [List.length_take]; omega
  have hz := hI.below.size
  have hbig := hI.big
  have hS : ∀ i, (i = w.heap.size + 1 ∨ i = w.heap.size + 2 ∨ wv.ownBlock = some i) → w.heap.size + 1 ≤ i ∧ ∃ cs t fr, w4.heap[i]? = some (.cells cs t fr) := fun i hi => by
    rcases hi with rfl | rfl | hi
    · exact ⟨by omega, _, _, _, (hbn.block _ (by omega)).trans hI.wbox⟩
    · exact ⟨by omega, _, _, _, (hbn.block _ (by omega)).trans hI.pbox⟩
    · have h1 := hI.row.lt i hi
      obtain ⟨cs, t, fr, hc⟩ := row_cells hI.row hi
      exact ⟨by omega, _, _, _, (hbn.block _ h1.2).trans hc⟩
  have hplug : (Ctx.down p.pb p.sv p.fv ((p.es : List (Pg h)).take x.1.1) ((p.es : List (Pg h)).drop (x.1.1 + 1)) c).plug q = ⟨H, T⟩ := by
    show c.plug ⟨p.pb, p.sv, p.fv, (p.es : List (Pg h)).take x.1.1 ++ q :: (p.es : List (Pg h)).drop (x.1.1 + 1)⟩ = _
    rw [← hsplit]
    exact hI.plug
  have hfl : flat (H + 1) T = c.before ++ flatL (h + 1) (p.es : List (Pg h)) ++ c.after := by
    have := c.plug_flat p
    rw [hI.plug] at this
    exact this
  rw [hfl] at hr
  have hst := step_keys (key := key) hsplit hr hok ?_ ?_ hI.bef hI.aft
  · refine ⟨Ctx.down p.pb p.sv p.fv ((p.es : List (Pg h)).take x.1.1) ((p.es : List (Pg h)).drop (x.1.1 + 1)) c, q, by simp [Ctx.turns], hplug, ?_, hwb, by rw [hqp]; exact hpb', ?_, hst.1, hst.2, ?_, ?_, ?_, ?_⟩
    · exact (hsp.block _ (by omega) (fun hs => by have := (hS _ hs).1; omega)).trans ((hbn.block _ (by omega)).trans hI.kbox)
    · simp only [Ctx.turns, List.length_append, List.length_cons, List.length_nil, htl, hpb]
      exact hrow
    · exact (hI.below.trans (hbn.mono hz)).trans (hsp.below (fun i hi => by have := (hS i hi).1; omega) (by omega))
    · have := hsp.size; omega
    · exact ((hI.waits.new hbn).spares hsp (fun i hi => (hS i hi).2)).cons hK (fun E hE => by have := hI.waits.lt E hE; omega)
    · intro E hE
      rcases List.mem_cons.1 hE with rfl | hE
      · omega
      · exact hI.high E hE
  · simp only [goodK, hq, Option.map_some, Option.getD_some, Bool.or_eq_true, beq_iff_eq, Bool.not_eq_true'] at hyes
    rcases hyes with h0 | h0
    · left; rw [h0]; rfl
    · exact .inr h0
  · intro r hr'
    obtain ⟨j, hj⟩ := List.getElem?_of_mem hr'
    rw [List.getElem?_drop] at hj
    have hjl := (List.getElem?_eq_some_iff.1 hj).1
    obtain ⟨y, hy, hyi⟩ := hpost (x.1.1 + 1 + j) (by omega) (by simpa using hjl)
    have := hno y hy
    rw [hyi] at this
    simp only [goodK, hj, Option.map_some, Option.getD_some, Bool.or_eq_false_iff, Bool.not_eq_false'] at this
    exact this.2

/-- A turn is added, the walk is on a page below. -/
theorem walk_step {w w4 W W2 W5 : World} {n : Nat} {wv v5 : Value} {len nb : Nat} {pb at' : Nat} {L : List (Nat × Nat)}
    (hz : n + 3 ≤ w4.heap.size) (hwb : w4.heap[n + 1]? = some (.cells #[wv] 58 (0, 0))) {u : Value} (hpb : w4.heap[n + 2]? = some (.cells #[u] 53 (0, 0))) (hrow : w4.ownsRow (n + 3) 84 2 wv len (turnC L))
    (hB : Below w4.heap.size w4 W) (hW2 : Below W.heap.size W W2) (hg : W2.grownBy W5 wv.ownBlock) (ho : W5.ownsRow (n + 3) 84 2 v5 (len + 1) (turnC (L ++ [(pb, at')]))) :
    KeepsFrom w4.heap.size W ((W5.setCell ⟨n + 1, 0, none⟩ v5).setCell ⟨n + 2, 0, none⟩ (ptr nb)) ∧ Spares (fun i => i = n + 1 ∨ i = n + 2 ∨ wv.ownBlock = some i) w4 ((W5.setCell ⟨n + 1, 0, none⟩ v5).setCell ⟨n + 2, 0, none⟩ (ptr nb)) ∧
      ((W5.setCell ⟨n + 1, 0, none⟩ v5).setCell ⟨n + 2, 0, none⟩ (ptr nb)).heap[n + 1]? = some (.cells #[v5] 58 (0, 0)) ∧ ((W5.setCell ⟨n + 1, 0, none⟩ v5).setCell ⟨n + 2, 0, none⟩ (ptr nb)).heap[n + 2]? = some (.cells #[ptr nb] 53 (0, 0)) ∧
      ((W5.setCell ⟨n + 1, 0, none⟩ v5).setCell ⟨n + 2, 0, none⟩ (ptr nb)).ownsRow (n + 3) 84 2 v5 (len + 1) (turnC (L ++ [(pb, at')])) ∧
      W5.heap[n + 1]? = some (.cells #[wv] 58 (0, 0)) ∧ (W5.setCell ⟨n + 1, 0, none⟩ v5).heap[n + 2]? = some (.cells #[u] 53 (0, 0)) := by
  have hzB := hB.size
  have hW2z := hW2.size
  have hlow : ∀ i, wv.ownBlock = some i → n + 3 ≤ i ∧ i < w4.heap.size := fun i hi => hrow.lt i hi
  have sp5 : Spares (fun i => wv.ownBlock = some i) W W5 := (Spares.of_new hW2).andThen (Spares.of_grown (S := fun i => wv.ownBlock = some i) hg (fun k e => e)) (fun i hi => .inl hi)
  have h1 : W5.heap[n + 1]? = some (.cells #[wv] 58 (0, 0)) := (sp5.block _ (by omega) (fun e => by have := (hlow _ e).1; omega)).trans ((hB.block _ (by omega)).trans hwb)
  have h2 : W5.heap[n + 2]? = some (.cells #[u] 53 (0, 0)) := (sp5.block _ (by omega) (fun e => by have := (hlow _ e).1; omega)).trans ((hB.block _ (by omega)).trans hpb)
  have s6 := spares_set W5 ⟨n + 1, 0, none⟩ v5
  have h3 : (W5.setCell ⟨n + 1, 0, none⟩ v5).heap[n + 2]? = some (.cells #[u] 53 (0, 0)) := (s6.block _ (block_lt h2) (fun e => by have e' : n + 2 = n + 1 := e; omega)).trans h2
  have s7 := spares_set (W5.setCell ⟨n + 1, 0, none⟩ v5) ⟨n + 2, 0, none⟩ (ptr nb)
  have h4 : (W5.setCell ⟨n + 1, 0, none⟩ v5).heap[n + 1]? = some (.cells #[v5] 58 (0, 0)) := heap_setCell_same _ _ _ _ _ _ h1
  have sp : Spares (fun i => i = n + 1 ∨ i = n + 2 ∨ wv.ownBlock = some i) W ((W5.setCell ⟨n + 1, 0, none⟩ v5).setCell ⟨n + 2, 0, none⟩ (ptr nb)) :=
    ((sp5.mono fun i hi => .inr (.inr hi)).andThen s6 (fun i hi => .inl (.inl hi))).andThen s7 (fun i hi => .inl (.inr (.inl hi)))
  have hS : ∀ i, (i = n + 1 ∨ i = n + 2 ∨ wv.ownBlock = some i) → ∃ cs t fr, W.heap[i]? = some (.cells cs t fr) := fun i hi => by
    rcases hi with rfl | rfl | hi
    · exact ⟨_, _, _, (hB.block _ (by omega)).trans hwb⟩
    · exact ⟨_, _, _, (hB.block _ (by omega)).trans hpb⟩
    · obtain ⟨cs, t, fr, hc⟩ := row_cells hrow hi
      exact ⟨_, _, _, (hB.block _ (hlow i hi).2).trans hc⟩
  have hrn : ∀ g, v5.ownBlock = some g → n + 3 ≤ g := fun g hg => (ho.lt g hg).1
  refine ⟨keepsFrom_of sp hS, ((Spares.of_new hB).andThen sp (fun i hi => .inl hi)), (s7.block _ (block_lt h4) (fun e => by have e' : n + 1 = n + 2 := e; omega)).trans h4, heap_setCell_same _ _ _ _ _ _ h3, ?_, h1, h3⟩
  exact s7.row (s6.row ho (fun g hg e => by have := hrn g hg; have e' : g = n + 1 := e; omega)) (fun g hg e => by have := hrn g hg; have e' : g = n + 2 := e; omega)

set_option maxHeartbeats 8000000 in
theorem walk_any (H : Nat) (T : Pg H) (K : Nat → Prop) (tb n : Nat) (kv : Value) (key : List UInt8) (w : World) (htb : w.heap[tb]? = some (.cells #[ptr T.pb, .int .i64 (n : Int)] 56 (0, 0))) (hT : Lies (H + 1) K w T) (hok : OkR H T) (hr : RisesV (flat (H + 1) T)) (hk : Says w kv key) (hH : H < 1000) :
    Calls Try.prog 25 #[.pointer (some ⟨tb, 0, none⟩), kv] w fun e w' => ∃ wv, ∃ c : Ctx 0, ∃ p : Pg 0, e = .returned (.tuple #[wv, .pointer (some ⟨p.pb, 0, none⟩)]) ∧ c.plug p = ⟨H, T⟩ ∧ w'.ownsRow w.heap.size 84 2 wv c.turns.length (turnC c.turns) ∧ (∀ x ∈ c.before, Op.bytesLess x.k key = true) ∧ (∀ x ∈ c.after, Op.bytesLess key x.k = true) ∧ Below w.heap.size w w' := by
  obtain ⟨ak, ck, rfl, _⟩ := id hk
  have q0 : w.cell? ⟨tb, 0, none⟩ = some (.pointer (some ⟨T.pb, 0, none⟩)) := by rw [cell_of_row _ _ _ _ _ _ htb]; rfl
  have q1 : ((w.alloc (.cells #[.slice ak key.length ck] 30)).alloc (.cells #[.slice none 0 0] 58)).cell? ⟨tb, 0, none⟩ = some (.pointer (some ⟨T.pb, 0, none⟩)) := ((((Below.refl _ w).alloc (Nat.le_refl _) _).alloc (by simp) _).cell (p := ⟨tb, 0, none⟩) (block_lt htb)).trans q0
  have HT := hid hT
  have HOK := hid hok
  have HR := hid hr
  have HK := hid hk
  refine (callsIn_wide (n := 3)).1 ?_
  refine callsIn_of_wp_marks Try.func25 rfl trivial ?_ rfl
  simp only [Try.ntmps25, List.size_toArray, List.length_cons, List.length_nil, Nat.reduceAdd, Nat.reduceSub, Array.replicate_succ, Array.replicate_zero, List.push_toArray, List.append_toArray, List.nil_append, List.cons_append]
  gi_wp2
  refine wpIn_scope_wide ?_
  gi_wp2
  refine wpIn_label ?_
  gi_wp2
  obtain ⟨b0, b1, b2, hB0, hsz⟩ := alloc3 w (.cells #[.slice ak key.length ck] 30) (.cells #[.slice none 0 0] 58) (.cells #[.pointer (some ⟨T.pb, 0, none⟩)] 53)
  generalize ((w.alloc (.cells #[.slice ak key.length ck] 30)).alloc (.cells #[.slice none 0 0] 58)).alloc (.cells #[.pointer (some ⟨T.pb, 0, none⟩)] 53) = w3 at *
  refine wpIn_loop (fun a' w' => ∃ (h : Nat) (c : Ctx h) (p : Pg h) (wv : Value) (Ds : List Nat) (u14 u15 u16 u17 u18 : Value), a' = { tmps := #[.pointer (some ⟨tb, 0, none⟩), .slice ak key.length ck, undef, .pointer (some ⟨w.heap.size, 0, none⟩), .slice none 0 0, .pointer none, .pointer (some ⟨w.heap.size + 1, 0, none⟩), .pointer (some ⟨w.heap.size + 2, 0, none⟩), undef, undef, .pointer (some ⟨tb, 0, none⟩), .pointer (some ⟨tb, 0, none⟩), .pointer (some ⟨tb, 0, none⟩), .pointer (some ⟨T.pb, 0, none⟩), u14, u15, u16, u17, u18, undef, undef, undef, undef, undef, undef, undef, undef, undef, undef, undef, undef, undef, undef, undef, undef, undef, undef, undef, undef, undef, undef], defers := marks Ds } ∧ WalkI H T K w key (.slice ak key.length ck) c p wv Ds w') (fun _ w' => H - lenAt w' (w.heap.size + 1))
    ⟨H, .top, T, .slice none 0 0, [], undef, undef, undef, undef, undef, rfl, ⟨rfl, b0, b1, b2, World.ownsRow_nil _ _ _ _, fun x hx => (by cases hx), fun x hx => (by cases hx), hB0, by omega, waits_nil _, fun D hD => (by cases hD)⟩⟩ ?_
  rintro a' w' ⟨h, c, p, wv, Ds, u14, u15, u16, u17, u18, rfl, hI⟩
  have hTw : Lies ((c.plug p).1 + 1) K w' (c.plug p).2 := by rw [hI.plug]; exact HT.out.new hI.below
  have hpl := ((c.plug_lies p).1 hTw).1
  have hpb := (lies_pg.1 hpl).1
  have hpo : OkR (c.plug p).1 (c.plug p).2 := by rw [hI.plug]; exact HOK.out
  have hop := ((c.plug_ok p).1 hpo).1
  have hz := hI.below.size
  have hbig := hI.big
  obtain ⟨aw, cw, rfl⟩ := row_slice hI.row
  have k2 : w'.cell? ⟨w.heap.size + 2, 0, none⟩ = some (.pointer (some ⟨p.pb, 0, none⟩)) := by rw [cell_of_row _ _ _ _ _ _ hI.pbox]; rfl
  have HI := hid hI
  have hhe : H = h + c.turns.length := by have := c.plug_height p; rw [hI.plug] at this; exact this
  clear hTw hpo hI
  cases h with
  | zero =>
    have k1 : w'.cell? ⟨p.pb, 1, none⟩ = some (.slice none 0 0) := by rw [cell_of_row _ _ _ _ _ _ hpb.blk]; rfl
    generalize hpbb : p.pb = pb at *
    gi_wp2_with (refine ⟨trivial, ?_⟩; gi_at_call 44; refine (callsIn_wide.2 (backP_any _ _ _ _)).mono ?_; rintro e w4 ⟨rfl, rfl⟩)
    have hbn := new_alloc w' (.cells #[.slice none 0 0] 64)
    have hnew := World.alloc_heap_new w' (.cells #[.slice none 0 0] 64)
    have hz4 : (w'.alloc (.cells #[.slice none 0 0] 64)).heap.size = w'.heap.size + 1 := World.size_alloc _ _
    generalize w'.alloc (.cells #[.slice none 0 0] 64) = w4 at *
    refine wpIn_rangeFunc_ownG rfl (by omega) (gf := 56) (lb := #[.pointer (some ⟨w'.heap.size, 0, none⟩)]) rfl trivial (enters_of Try.func56 (by kernel_rfl) rfl)
      (backP_stops _ w'.heap.size none 0 [] w4 hnew (rw_nil _ _)) kpA_t (kpA_b (by omega) (fun ad e => by cases e)) (Below.refl _ _) (fun _ => rfl)
      (fun pre W => Below w4.heap.size w4 W) (fun _ _ _ => False) (ownFrom_below (Nat.le_refl _) (Nat.le_refl _)) (fun _ _ _ _ _ hs _ _ => hs) (Below.refl _ _) (fun x => ⟨#[], []⟩) ?assign ?body ?done ?stop
    case assign => exact fun l x W K hK => absurd x.2 (by simp)
    case body => exact fun l pre x W _ h => absurd h (by simp)
    case stop => exact fun D cd pre W _ _ h _ => h.elim
    case done =>
      rintro D ys W hD hS hB hK
      have j1 : W.cell? ⟨w.heap.size + 1, 0, none⟩ = some (.slice aw c.turns.length cw) := by rw [cell_of_row _ _ _ _ _ _ ((hB.block _ (by omega)).trans ((hbn.block _ (by omega)).trans HI.out.wbox))]; rfl
      have j2 : W.cell? ⟨w.heap.size + 2, 0, none⟩ = some (.pointer (some ⟨pb, 0, none⟩)) := by rw [cell_of_row _ _ _ _ _ _ ((hB.block _ (by omega)).trans ((hbn.block _ (by omega)).trans HI.out.pbox)), hpbb]; rfl
      gi_wp2
      gi_quiet (fail)
      gi_wp2
      rw [Exit.noGoto_ret]
      have hbq : Below w'.heap.size w' (W.drewN nq) := (hbn.trans (hB.mono (by omega))).trans (below_drewN _ _ _)
      have hwt : Waits (W.drewN nq) (D :: Ds) := (HI.out.waits.new hbq).cons hK (fun E hE => by have := HI.out.waits.lt E hE; omega)
      show LeavesInM Fence.wide 3 Try.prog _ _ _ (marks (D :: Ds)) .returning _
      refine leaves_marks (D :: Ds) _ hwt fun w'' hs hz2 => ⟨_, results_tmp2 rfl _ _ _, _, c, p, by rw [← hpbb]; rfl, HI.out.plug, ?_, HI.out.bef, HI.out.aft, ?_⟩
      · refine owns_lower (hs.row ((Spares.of_new (S := fun _ => False) hbq).row HI.out.row (fun _ _ => id)) (fun g hg hm => ?_)) (fun g hg => by have := (HI.out.row.lt g hg).1; omega)
        obtain ⟨cs, t, fr, hc⟩ := row_cells ((Spares.of_new (S := fun _ => False) hbq).row HI.out.row (fun _ _ => id)) hg
        rw [hwt.2 g hm] at hc
        cases hc
      · refine (HI.out.below.trans (hbq.mono hz)).trans (hs.below (fun i hi => ?_) (by show w.heap.size ≤ W.heap.size; have := hB.size; omega))
        rcases List.mem_cons.1 hi with rfl | hi
        · omega
        · have := HI.out.high i hi; omega
  | succ h =>
    have hkid : 2 ≤ p.es.length ∧ p.es.length ≤ 4 ∧ ∀ e ∈ p.es, OkE (h + 1) e := by
      cases c with
      | top => exact okE_pg.1 hop
      | down => exact okE_pg.1 hop
    have hll : (p.es.map PgOf.pb).length = p.es.length := List.length_map _
    have hrw : Rw w' 1 p.sv p.es.length ((p.es.map PgOf.pb).map ptr) := by
      rw [List.map_map]
      have := rw_of_owns hpb.row (by rw [rowC_pg]; intro u hu; obtain ⟨q, _, rfl⟩ := List.mem_map.1 hu; rfl)
      rw [rowC_pg] at this
      exact this
    obtain ⟨bl, c1, hsv⟩ : ∃ bl c1, p.sv = .slice (some ⟨bl, 0, none⟩) p.es.length c1 := by
      rcases hpb.row.2 with ⟨_, h0⟩ | ⟨g, cap, cur, e, _⟩
      · omega
      · exact ⟨g, cap, e⟩
    rw [hsv] at hrw
    have k1 : w'.cell? ⟨p.pb, 1, none⟩ = some (.slice (some ⟨bl, 0, none⟩) p.es.length c1) := by rw [cell_of_row _ _ _ _ _ _ hpb.blk, hsv]; rfl
    have hblt : bl < w'.heap.size := (hpb.row.lt bl (by rw [hsv]; rfl)).2
    have HKD := hid hkid
    have HPL := hid (lies_pg.1 hpl).2.2
    generalize hpbb : p.pb = pb at *
    have HPB := hid hpbb
    have HHE := hid hhe
    have HLL := hid hll
    clear hkid hll hpb hop hpl hsv hhe
    gi_wp2_with (refine ⟨trivial, ?_⟩; gi_at_call 44; refine (callsIn_wide.2 (backP_any _ _ _ _)).mono ?_; rintro e w4 ⟨rfl, rfl⟩)
    have hbn := new_alloc w' (.cells #[.slice (some ⟨bl, 0, none⟩) p.es.length c1] 64)
    have hnew := World.alloc_heap_new w' (.cells #[.slice (some ⟨bl, 0, none⟩) p.es.length c1] 64)
    have hz4 : (w'.alloc (.cells #[.slice (some ⟨bl, 0, none⟩) p.es.length c1] 64)).heap.size = w'.heap.size + 1 := World.size_alloc _ _
    generalize w'.alloc (.cells #[.slice (some ⟨bl, 0, none⟩) p.es.length c1] 64) = w4 at *
    refine wpIn_rangeFunc_ownG rfl (by omega) (gf := 56) (lb := #[.pointer (some ⟨w'.heap.size, 0, none⟩)]) rfl trivial (enters_of Try.func56 (by kernel_rfl) rfl)
      (backP_stops _ w'.heap.size (some ⟨bl, 0, none⟩) c1 (p.es.map PgOf.pb) w4 (by rw [HLL.out]; exact hnew) (by rw [HLL.out]; exact hrw.new hbn)) kpA_t (kpA_b (by omega) (fun ad e => by cases e; show bl < _; omega)) (Below.refl _ _) (fun _ => rfl)
      (fun pre W => Below w4.heap.size w4 W ∧ ∀ x ∈ pre, goodK (p.es : List (Pg h)) key x.1.1 = false)
      (fun cd pre W => cd = .exit 1 ∧ ∃ pre' x, pre = pre' ++ [x] ∧ (∀ y ∈ pre', goodK (p.es : List (Pg h)) key y.1.1 = false) ∧ goodK (p.es : List (Pg h)) key x.1.1 = true ∧ ∃ wv', Spares (fun i => i = w.heap.size + 1 ∨ i = w.heap.size + 2 ∨ (Value.slice aw c.turns.length cw).ownBlock = some i) w4 W ∧
        W.heap[w.heap.size + 1]? = some (.cells #[wv'] 58 (0, 0)) ∧ W.heap[w.heap.size + 2]? = some (.cells #[ptr x.1.2] 53 (0, 0)) ∧ W.ownsRow (w.heap.size + 3) 84 2 wv' (c.turns.length + 1) (turnC (c.turns ++ [(pb, x.1.1)])))
      ((ownFrom_below (Nat.le_refl _) (Nat.le_refl _)).and (fun _ _ _ _ hs _ _ => hs))
      (fun cd s W W' row hs hg hr => by
        obtain ⟨h1, pre', x, h2, h3, h4, wv', h5, h6, h7, h8⟩ := hs
        exact ⟨h1, pre', x, h2, h3, h4, wv', spares_own (Nat.le_refl _) () W W' row h5 hg hr, cells_own () W W' row h6 hg hr, cells_own () W W' row h7 hg hr, row_own h8 hg hr⟩)
      ⟨Below.refl _ _, fun x hx => (by cases hx)⟩ (fun x => { tmps := #[.pointer (some ⟨tb, 0, none⟩), .slice ak key.length ck, undef, .pointer (some ⟨w.heap.size, 0, none⟩), .slice none 0 0, .pointer none, .pointer (some ⟨w.heap.size + 1, 0, none⟩), .pointer (some ⟨w.heap.size + 2, 0, none⟩), .int .i64 (x.1.1 : Int), .pointer (some ⟨x.1.2, 0, none⟩), .pointer (some ⟨tb, 0, none⟩), .pointer (some ⟨tb, 0, none⟩), .pointer (some ⟨tb, 0, none⟩), .pointer (some ⟨T.pb, 0, none⟩), .pointer (some ⟨pb, 0, none⟩), .pointer (some ⟨pb, 0, none⟩), .pointer (some ⟨pb, 1, none⟩), .slice (some ⟨bl, 0, none⟩) p.es.length c1, .func (.func 56) #[] #[.pointer (some ⟨w'.heap.size, 0, none⟩)], .int .i64 (x.1.1 : Int), .pointer (some ⟨x.1.2, 0, none⟩), undef, undef, undef, undef, undef, undef, undef, undef, undef, undef, undef, undef, undef, undef, undef, undef, undef, undef, undef, undef], defers := [] }) ?assign ?body ?done ?stop
    case assign =>
      intro l x W K hK
      gi_wp2
      exact hK
    case done =>
      rintro D ys W hD hS ⟨hB, hgd⟩ hK
      obtain ⟨y, hy, h0⟩ := told_all hS (by rw [HLL.out]; have := HKD.out.1; omega)
      have := hgd y hy
      rw [h0] at this
      simp [goodK] at this
    case stop =>
      rintro D cd pre W hD hSp ⟨rfl, pre', x, rfl, hno, hyes, wv', hsp, hwb, hpb', hrow⟩ hK
      obtain ⟨c', q, hcl, hI'⟩ := walk_next HI.out HR.out HKD.out.2.2 HPB.out hbn hz4 hSp hno hyes hsp hwb hpb' hrow hD hK
      have hl1 : lenAt W (w.heap.size + 1) = c.turns.length + 1 := by
        obtain ⟨a9, c9, rfl⟩ := row_slice hrow
        simp only [lenAt, cell_of_row _ _ _ _ _ _ hwb]
        rfl
      have hl2 : lenAt w' (w.heap.size + 1) = c.turns.length := by
        simp only [lenAt, cell_of_row _ _ _ _ _ _ HI.out.wbox]
        rfl
      have hhe := HHE.out
      gi_wp2
      exact ⟨⟨h, c', q, wv', D :: Ds, _, _, _, _, _, rfl, hI'⟩, by rw [hl1, hl2]; omega⟩
    case body =>
      rintro l pre ⟨⟨at', nb⟩, hx⟩ W ⟨hB, hgd⟩ hlt
      dsimp only
      obtain ⟨q, hq, hqp⟩ : ∃ q, (p.es : List (Pg h))[at']? = some q ∧ q.pb = nb := by
        rw [List.getElem?_map] at hx
        exact Option.map_eq_some_iff.1 hx
      have hqm : q ∈ (p.es : List (Pg h)) := List.mem_of_getElem? hq
      have hbW : Below w'.heap.size w' W := hbn.trans (hB.mono (by omega))
      have hql := (HPL.out q hqm).new hbW
      have hqs : Says W q.fv (fk (h + 1) q) := fv_says (h := h + 1) hql (HKD.out.2.2 q hqm)
      have hks : Says W (.slice ak key.length ck) key := HK.out.new (HI.out.below.trans (hbW.mono hz))
      obtain ⟨fa, fc, hfv, _⟩ := id hqs
      have cq : W.cell? ⟨nb, 2, none⟩ = some (.slice fa (fk (h + 1) q).length fc) := by rw [← hqp, ← hfv]; exact pg_cell2 (lies_pg.1 hql).1
      rw [hfv] at hqs
      have hwb4 := (hbn.block _ (block_lt HI.out.wbox)).trans HI.out.wbox
      have hpb4 := (hbn.block _ (block_lt HI.out.pbox)).trans HI.out.pbox
      rw [HPB.out] at hpb4
      have hrow4 := (Spares.of_new (S := fun _ => False) hbn).row HI.out.row (fun _ _ => id)
      have hrowW := (Spares.of_new (S := fun _ => False) hB).row hrow4 (fun _ _ => id)
      have d0 : W.cell? ⟨w.heap.size, 0, none⟩ = some (.slice ak key.length ck) := by rw [cell_of_row _ _ _ _ _ _ ((hbW.block _ (block_lt HI.out.kbox)).trans HI.out.kbox)]; rfl
      have d1 : W.cell? ⟨w.heap.size + 1, 0, none⟩ = some (.slice aw c.turns.length cw) := by rw [cell_of_row _ _ _ _ _ _ ((hB.block _ (block_lt hwb4)).trans hwb4)]; rfl
      have d2 : W.cell? ⟨w.heap.size + 2, 0, none⟩ = some (.pointer (some ⟨pb, 0, none⟩)) := by rw [cell_of_row _ _ _ _ _ _ ((hB.block _ (block_lt hpb4)).trans hpb4)]; rfl
      have hcmp := fun nq => compare_any _ _ _ _ (fk (h + 1) q) key (W.drewN nq) (hqs.new (below_drewN _ W nq)) (hks.new (below_drewN _ W nq))
      have hrng := cmp_range (fk (h + 1) q) key
      have hgk : goodK (p.es : List (Pg h)) key at' = (at' == 0 || decide (Lib.compareBytes (fk (h + 1) q) key ≤ 0)) := by
        rw [cmp_le]
        simp only [goodK, hq, Option.map_some, Option.getD_some]
      have hcl : c.turns.length < 1000 := by have := HHE.out; omega
      have hzW := hB.size
      generalize (fk (h + 1) q).length = fl at *
      generalize Lib.compareBytes (fk (h + 1) q) key = r at *
      clear hql hqs hks hfv hq hqm
      by_cases h0 : at' = 0
      · subst h0
        have hgood : goodK (p.es : List (Pg h)) key 0 = true := by rw [hgk]; rfl
        clear hgk
        gi_wp2
        refine quiet_in_round (by kernel_rfl) (by kernel_rfl) (by kernel_rfl) (by rintro ⟨_, _, h⟩; exact h) ?_
        repeat (go_big_quiet_step ((go_at_call 39; exact Calls.quiet_of_same (hcmp _))))
        refine wpQuiet_nil ?_
        intro _ hw'
        obtain ⟨nq, hw''⟩ := hw'
        subst hw''
        have hW2 : Below W.heap.size W ((W.drewN nq).alloc (.cells #[.pointer (some ⟨pb, 0, none⟩), .int .i64 (0 : Int)] 84)) := (below_drewN _ _ _).alloc (Nat.le_refl _) _
        have hnews := two_cells (W.drewN nq) (.pointer (some ⟨pb, 0, none⟩)) (.int .i64 (0 : Int)) 84
        have hro2 := (Spares.of_new (S := fun _ => False) hW2).row hrowW (fun _ _ => id)
        obtain ⟨i0, hi, hz0, hzz1, hzz2⟩ := info_parts Try.infoTurnZ
        have HST := hid (fun (v5 : Value) (W5 : World) (hg : ((W.drewN nq).alloc (.cells #[.pointer (some ⟨pb, 0, none⟩), .int .i64 (0 : Int)] 84)).grownBy W5 (Value.slice aw c.turns.length cw).ownBlock) (ho : W5.ownsRow (w.heap.size + 3) 84 2 v5 (c.turns.length + 1) (turnC c.turns ++ [.pointer (some ⟨pb, 0, none⟩), .int .i64 (0 : Int)])) =>
          walk_step (w := w) (nb := nb) (pb := pb) (at' := 0) (L := c.turns) (by omega) hwb4 hpb4 hrow4 hB hW2 hg (by rw [turnC_snoc]; exact ho))
        clear hcmp hW2 hrowW hwb4 hpb4 hrow4
        gi_wp2_with (gi_at_builtin; go_loud (refine listRound_op rfl (fun c h => by cases h) (wp_append_lies _ (.tmp 32) (.tmp 36) 58 rfl (w.heap.size + 3) 84 i0 _ 2 16 Try.underlying58 hi hz0 hzz1 hzz2 rfl (by decide) (.slice aw c.turns.length cw) c.turns.length _ rfl hro2 ⟨(W.drewN nq).heap.size, 0, none⟩ 1 1 [.pointer (some ⟨pb, 0, none⟩), .int .i64 (0 : Int)] rfl rfl hnews (by intro u hu; simp at hu; rcases hu with rfl | rfl <;> rfl) (by decide) (by unfold maxLen; omega) (by omega) (by simp; omega) _ rfl ?_)))
        intro g cap W5 hown5 hgrow5 hat5 hglt5
        obtain ⟨r1, r2, r3, r4, r5, r6, r7⟩ := HST.out _ W5 hgrow5 hown5
        have c6 : W5.cell? ⟨w.heap.size + 1, 0, none⟩ = some (.slice aw c.turns.length cw) := by rw [cell_of_row _ _ _ _ _ _ r6]; rfl
        have f6 : W5.frozen? ⟨w.heap.size + 1, 0, none⟩ = false := by simp [World.frozen?, r6]
        have c7 : (W5.setCell ⟨w.heap.size + 1, 0, none⟩ (.slice (some ⟨g, 0, none⟩) (c.turns.length + 1) cap)).cell? ⟨w.heap.size + 2, 0, none⟩ = some (.pointer (some ⟨pb, 0, none⟩)) := by rw [cell_of_row _ _ _ _ _ _ r7]; rfl
        have f7 : (W5.setCell ⟨w.heap.size + 1, 0, none⟩ (.slice (some ⟨g, 0, none⟩) (c.turns.length + 1) cap)).frozen? ⟨w.heap.size + 2, 0, none⟩ = false := by simp [World.frozen?, r7]
        have HR5 := hid (show _ ∧ _ ∧ _ ∧ _ ∧ _ from ⟨r1, r2, r3, r4, r5⟩)
        clear r1 r2 r3 r4 r5 r6 r7 hown5 hgrow5 hat5 hglt5 hro2
        gi_wp2
        exact ⟨HR5.out.1, rfl, pre, ⟨(0, nb), hx⟩, rfl, hgd, hgood, _, HR5.out.2.1, HR5.out.2.2.1, HR5.out.2.2.2.1, HR5.out.2.2.2.2⟩
      · have hne : ¬ (at' : Int) = 0 := by omega
        have hdf : decide ((at' : Int) = 0) = false := by simpa using h0
        have hdf2 : ((at' : Int) == 0) = false := by simpa using h0
        by_cases hr0 : r ≤ 0
        · have hgood : goodK (p.es : List (Pg h)) key at' = true := by rw [hgk]; simp [hr0]
          clear hgk
          gi_wp2
          refine quiet_in_round (by kernel_rfl) (by kernel_rfl) (by kernel_rfl) (by rintro ⟨_, _, h⟩; exact h) ?_
          repeat (go_big_quiet_step ((go_at_call 39; exact Calls.quiet_of_same (hcmp _))))
          refine wpQuiet_nil ?_
          intro _ hw'
          obtain ⟨nq, hw''⟩ := hw'
          subst hw''
          have hW2 : Below W.heap.size W ((W.drewN nq).alloc (.cells #[.pointer (some ⟨pb, 0, none⟩), .int .i64 (at' : Int)] 84)) := (below_drewN _ _ _).alloc (Nat.le_refl _) _
          have hnews := two_cells (W.drewN nq) (.pointer (some ⟨pb, 0, none⟩)) (.int .i64 (at' : Int)) 84
          have hro2 := (Spares.of_new (S := fun _ => False) hW2).row hrowW (fun _ _ => id)
          obtain ⟨i0, hi, hz0, hzz1, hzz2⟩ := info_parts Try.infoTurnZ
          have HST := hid (fun (v5 : Value) (W5 : World) (hg : ((W.drewN nq).alloc (.cells #[.pointer (some ⟨pb, 0, none⟩), .int .i64 (at' : Int)] 84)).grownBy W5 (Value.slice aw c.turns.length cw).ownBlock) (ho : W5.ownsRow (w.heap.size + 3) 84 2 v5 (c.turns.length + 1) (turnC c.turns ++ [.pointer (some ⟨pb, 0, none⟩), .int .i64 (at' : Int)])) =>
            walk_step (w := w) (nb := nb) (pb := pb) (at' := at') (L := c.turns) (by omega) hwb4 hpb4 hrow4 hB hW2 hg (by rw [turnC_snoc]; exact ho))
          clear hcmp hW2 hrowW hwb4 hpb4 hrow4
          gi_wp2_with (gi_at_builtin; go_loud (refine listRound_op rfl (fun c h => by cases h) (wp_append_lies _ (.tmp 32) (.tmp 36) 58 rfl (w.heap.size + 3) 84 i0 _ 2 16 Try.underlying58 hi hz0 hzz1 hzz2 rfl (by decide) (.slice aw c.turns.length cw) c.turns.length _ rfl hro2 ⟨(W.drewN nq).heap.size, 0, none⟩ 1 1 [.pointer (some ⟨pb, 0, none⟩), .int .i64 (at' : Int)] rfl rfl hnews (by intro u hu; simp at hu; rcases hu with rfl | rfl <;> rfl) (by decide) (by unfold maxLen; omega) (by omega) (by simp; omega) _ rfl ?_)))
          intro g cap W5 hown5 hgrow5 hat5 hglt5
          obtain ⟨r1, r2, r3, r4, r5, r6, r7⟩ := HST.out _ W5 hgrow5 hown5
          have c6 : W5.cell? ⟨w.heap.size + 1, 0, none⟩ = some (.slice aw c.turns.length cw) := by rw [cell_of_row _ _ _ _ _ _ r6]; rfl
          have f6 : W5.frozen? ⟨w.heap.size + 1, 0, none⟩ = false := by simp [World.frozen?, r6]
          have c7 : (W5.setCell ⟨w.heap.size + 1, 0, none⟩ (.slice (some ⟨g, 0, none⟩) (c.turns.length + 1) cap)).cell? ⟨w.heap.size + 2, 0, none⟩ = some (.pointer (some ⟨pb, 0, none⟩)) := by rw [cell_of_row _ _ _ _ _ _ r7]; rfl
          have f7 : (W5.setCell ⟨w.heap.size + 1, 0, none⟩ (.slice (some ⟨g, 0, none⟩) (c.turns.length + 1) cap)).frozen? ⟨w.heap.size + 2, 0, none⟩ = false := by simp [World.frozen?, r7]
          have HR5 := hid (show _ ∧ _ ∧ _ ∧ _ ∧ _ from ⟨r1, r2, r3, r4, r5⟩)
          clear r1 r2 r3 r4 r5 r6 r7 hown5 hgrow5 hat5 hglt5 hro2
          gi_wp2
          exact ⟨HR5.out.1, rfl, pre, ⟨(at', nb), hx⟩, rfl, hgd, hgood, _, HR5.out.2.1, HR5.out.2.2.1, HR5.out.2.2.2.1, HR5.out.2.2.2.2⟩
        · have hgood : goodK (p.es : List (Pg h)) key at' = false := by rw [hgk]; simp [hr0, h0]
          have hr1 : 0 < r := by omega
          clear hgk
          gi_wp2
          refine quiet_in_round (by kernel_rfl) (by kernel_rfl) (by kernel_rfl) (by rintro ⟨_, _, h⟩; exact h) ?_
          repeat (go_big_quiet_step ((go_at_call 39; exact Calls.quiet_of_same (hcmp _))))
          refine wpQuiet_nil ?_
          intro _ hw'
          obtain ⟨nq, hw''⟩ := hw'
          subst hw''
          gi_wp2
          refine ⟨⟨Nat.le_refl _, fun _ _ _ h _ => h⟩, kpA_refl _, hB.trans (below_drewN _ _ _), fun y hy => ?_⟩
          rcases List.mem_append.1 hy with hy | hy
          · exact hgd y hy
          · simp at hy; subst hy; exact hgood
end Go.Proofs.Ytjfipejfejmlaaa
