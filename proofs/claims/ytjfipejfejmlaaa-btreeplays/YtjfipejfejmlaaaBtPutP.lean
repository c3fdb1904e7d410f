/- What Put and Delete leave; plain. -/
import Derived.Test.YtjfipejfejmlaaaBtOps
namespace Go.Proofs.Ytjfipejfejmlaaa
open Go.RowKit Go.Shelf
set_option linter.unusedVariables false
set_option linter.unusedSimpArgs false
set_option maxRecDepth 20000

theorem Ctx.plug_pb : ∀ {h : Nat} (c : Ctx h) (p : Pg h), (c.plug p).2.pb = c.root p.pb
  | _, .top, p => rfl
  | _, .down pb sv fv pre post up, p => plug_pb up _

section
variable {K K' : Nat → Prop} {w w6 : World} {tb : Nat} {cnt cnt' : Int} {H : Nat} {T : Pg H} {key : List UInt8} {c : Ctx 0} {p : Pg 0}

theorem AtLeaf.root (hA : AtLeaf K w T key c p) : c.root p.pb = T.pb := by
  rw [← c.plug_pb p]
  have := hA.plug
  rw [this]

/-- A leaf's entries have changed. -/
theorem leaf_dirt (ht : TreeM K w tb cnt T) (hA : AtLeaf K w T key c p) {es' : List EntV} {sv' : Value}
    (hsp : Spares (fun i => i = p.pb ∨ i = tb ∨ p.sv.ownBlock = some i) w w6) (hpb : w6.heap[p.pb]? = some (.cells (pcs 0 sv' p.fv) 66 (0, 0))) (hrow : w6.ownsRow 0 46 2 sv' es'.length (es'.flatMap EntV.two))
    (hsv : ∀ g, sv'.ownBlock = some g → p.sv.ownBlock = some g ∨ w.heap.size ≤ g) (htb : w6.heap[tb]? = some (.cells #[ptr T.pb, .int .i64 cnt'] 56 (0, 0)))
    (hlies : ∀ x ∈ es', Lies 0 K' w6 x) (hKK : ∀ i, K i → K' i) (hK' : ∀ i, K' i → K i ∨ (w.heap.size ≤ i ∧ i < w6.heap.size ∧ sv'.ownBlock ≠ some i)) (hlen : es'.length ≤ 5) (hleast : c.isTop = false → 1 ≤ es'.length) :
    Dirt K' w6 tb cnt' c p.pb sv' p.fv (es' : List (Elem 0)) ∧ ∀ i, i < w.heap.size → totO c p.pb sv' (es' : List (Elem 0)) i ≤ occ (H + 1) T i := by
  have hold : ∀ i, occ (H + 1) T i = c.occ i + ((if p.pb = i then 1 else 0) + (if p.sv.ownBlock = some i then 1 else 0)) := fun i => by
    rw [hA.tot i]
    unfold totO
    rw [occL_zero, Nat.add_zero]
  have hnew : ∀ i, totO c p.pb sv' (es' : List (Elem 0)) i = c.occ i + ((if p.pb = i then 1 else 0) + (if sv'.ownBlock = some i then 1 else 0)) := fun i => by
    unfold totO
    rw [occL_zero, Nat.add_zero]
  have hone := ht.one
  have hcl : ∀ i, w.heap.size ≤ i → c.occ i = 0 := fun i hi => by
    rcases Nat.eq_zero_or_pos (c.occ i) with h | h
    · exact h
    · have := hA.ctx.lt i h; omega
  have hpl : p.pb < w.heap.size := block_lt (lies_pg.1 hA.lies).1.blk
  have htl : tb < w.heap.size := block_lt ht.tree
  have hsvl : ∀ g, p.sv.ownBlock = some g → g < w.heap.size := fun g hg => ((lies_pg.1 hA.lies).1.row.lt g hg).2
  have hle : ∀ i, i < w.heap.size → totO c p.pb sv' (es' : List (Elem 0)) i ≤ occ (H + 1) T i := fun i hi => by
    rw [hnew, hold]
    by_cases h1 : sv'.ownBlock = some i
    · rcases hsv i h1 with h2 | h2
      · rw [if_pos h1, if_pos h2]; exact Nat.le_refl _
      · omega
    · rw [if_neg h1]; omega
  refine ⟨⟨?_, ⟨hpb, hrow⟩, hlies, ?_, hA.ok, fun e _ => trivial, hlen, fun h => ?_, fun i => ?_, fun i hi => ?_⟩, hle⟩
  · rw [hA.root]; exact htb
  · refine Ctx.Lies.keep hsp (K := K') (fun i hi hR => ?_) (hA.ctx.mono hKK) (fun i hi hR => ?_)
    · rcases hK' i hi with h1 | ⟨h1, _, _⟩
      · obtain ⟨h2, h3, _⟩ := ht.kfree i h1
        rw [hold] at h2
        rcases hR with rfl | rfl | hR
        · rw [if_pos rfl] at h2; omega
        · exact h3 rfl
        · rw [if_pos hR] at h2; omega
      · rcases hR with rfl | rfl | hR
        · omega
        · omega
        · have := hsvl i hR; omega
    · have h1 := hone i
      rw [hold] at h1
      rcases hR with rfl | rfl | hR
      · rw [if_pos rfl] at h1; omega
      · rw [if_pos rfl] at h1; omega
      · rw [if_pos hR] at h1; omega
  · rcases h with h | h
    · exact hleast h
    · exact absurd h (Nat.lt_irrefl _)
  · by_cases hi : i < w.heap.size
    · have h1 := hle i hi
      have h2 := hone i
      omega
    · rw [hnew, hcl i (by omega), if_neg (by omega), if_neg (show ¬ tb = i by omega)]
      split <;> omega
  · rcases hK' i hi with h1 | ⟨h1, h2, h3⟩
    · obtain ⟨h4, h5, h6⟩ := ht.kfree i h1
      have := hle i h6
      exact ⟨by omega, h5, Nat.lt_of_lt_of_le h6 hsp.size⟩
    · refine ⟨?_, by omega, h2⟩
      rw [hnew, hcl i h1, if_neg (by omega), if_neg h3]

/-- .. the leaf's row and the count are written. -/
theorem leaf_new (ht : TreeM K w tb cnt T) (hA : AtLeaf K w T key c p) {es' : List EntV} {sv' : Value} (hsp : Spares (fun i => p.sv.ownBlock = some i) w w6) (hrow : w6.ownsRow 0 46 2 sv' es'.length (es'.flatMap EntV.two))
    (hsv : ∀ g, sv'.ownBlock = some g → p.sv.ownBlock = some g ∨ w.heap.size ≤ g) (hlies : ∀ x ∈ es', Lies 0 K' w6 x) (hKK : ∀ i, K i → K' i) (hK' : ∀ i, K' i → K i ∨ (w.heap.size ≤ i ∧ i < w6.heap.size ∧ sv'.ownBlock ≠ some i)) (hlen : es'.length ≤ 5) (hleast : c.isTop = false → 1 ≤ es'.length) (cnt' : Int) :
    Dirt K' ((w6.setCell ⟨p.pb, 0, none⟩ sv').setCell ⟨tb, 1, none⟩ (.int .i64 cnt')) tb cnt' c p.pb sv' p.fv (es' : List (Elem 0)) ∧ (∀ i, i < w.heap.size → totO c p.pb sv' (es' : List (Elem 0)) i ≤ occ (H + 1) T i) ∧
      Spares (fun i => i = p.pb ∨ i = tb ∨ p.sv.ownBlock = some i) w ((w6.setCell ⟨p.pb, 0, none⟩ sv').setCell ⟨tb, 1, none⟩ (.int .i64 cnt')) ∧ (w6.setCell ⟨p.pb, 0, none⟩ sv').heap[tb]? = some (.cells #[ptr T.pb, .int .i64 cnt] 56 (0, 0)) ∧ w6.heap[p.pb]? = some (.cells #[p.sv, nilS, p.fv] 66 (0, 0)) := by
  have hat := (lies_pg.1 hA.lies).1
  have hpl := block_lt hat.blk
  have htl := block_lt ht.tree
  have htot : ∀ i, occ (H + 1) T i = c.occ i + ((if p.pb = i then 1 else 0) + (if p.sv.ownBlock = some i then 1 else 0)) := fun i => by
    rw [hA.tot i]
    unfold totO
    rw [occL_zero, Nat.add_zero]
  have ht1 := ht.one tb
  have hp1 := ht.one p.pb
  rw [htot, if_pos rfl] at ht1
  rw [htot, if_pos rfl] at hp1
  have htp : tb ≠ p.pb := fun e => by rw [if_pos e.symm] at ht1; omega
  have hts : p.sv.ownBlock ≠ some tb := fun e => by rw [if_pos e] at ht1; omega
  have hps : p.sv.ownBlock ≠ some p.pb := fun e => by rw [if_pos e] at hp1; omega
  have hz := hsp.size
  have hp6 : w6.heap[p.pb]? = some (.cells #[p.sv, nilS, p.fv] 66 (0, 0)) := (hsp.block _ hpl hps).trans hat.blk
  have ht6 : w6.heap[tb]? = some (.cells #[ptr T.pb, .int .i64 cnt] 56 (0, 0)) := (hsp.block _ htl hts).trans ht.tree
  have s7 := spares_set w6 ⟨p.pb, 0, none⟩ sv'
  have ht7 : (w6.setCell ⟨p.pb, 0, none⟩ sv').heap[tb]? = some (.cells #[ptr T.pb, .int .i64 cnt] 56 (0, 0)) := (s7.block _ (block_lt ht6) htp).trans ht6
  have hp7 : (w6.setCell ⟨p.pb, 0, none⟩ sv').heap[p.pb]? = some (.cells (pcs 0 sv' p.fv) 66 (0, 0)) := heap_setCell_same _ _ _ _ _ _ hp6
  have s8 := spares_set (w6.setCell ⟨p.pb, 0, none⟩ sv') ⟨tb, 1, none⟩ (.int .i64 cnt')
  have hp8 := (s8.block _ (block_lt hp7) (fun e => htp (show p.pb = tb from e).symm)).trans hp7
  have ht8 : ((w6.setCell ⟨p.pb, 0, none⟩ sv').setCell ⟨tb, 1, none⟩ (.int .i64 cnt')).heap[tb]? = some (.cells #[ptr T.pb, .int .i64 cnt'] 56 (0, 0)) := heap_setCell_same _ _ _ _ _ _ ht7
  have hs : Spares (fun i => i = p.pb ∨ i = tb ∨ p.sv.ownBlock = some i) w ((w6.setCell ⟨p.pb, 0, none⟩ sv').setCell ⟨tb, 1, none⟩ (.int .i64 cnt')) :=
    ((hsp.mono fun i hi => .inr (.inr hi)).andThen s7 (fun i hi => .inl (.inl hi))).andThen s8 (fun i hi => .inl (.inr (.inl hi)))
  have hsne : ∀ g, sv'.ownBlock = some g → g ≠ p.pb ∧ g ≠ tb := fun g hg => by
    rcases hsv g hg with h | h
    · exact ⟨fun e => hps (by rw [← e]; exact h), fun e => hts (by rw [← e]; exact h)⟩
    · exact ⟨by omega, by omega⟩
  have hKne : ∀ i, K' i → i ≠ p.pb ∧ i ≠ tb := fun i hi => by
    rcases hK' i hi with h | ⟨h, _, _⟩
    · obtain ⟨h1, h2, _⟩ := ht.kfree i h
      rw [htot] at h1
      exact ⟨fun e => by rw [if_pos e.symm] at h1; omega, fun e => h2 e.symm⟩
    · exact ⟨by omega, by omega⟩
  have hlies8 : ∀ x ∈ es', Lies 0 K' ((w6.setCell ⟨p.pb, 0, none⟩ sv').setCell ⟨tb, 1, none⟩ (.int .i64 cnt')) x := fun x hx =>
    ((hlies x hx).keep s7 (fun i hi => by simp [occ] at hi) (fun i hi e => (hKne i hi).1 e)).keep s8 (fun i hi => by simp [occ] at hi) (fun i hi e => (hKne i hi).2 e)
  have hrow8 := s8.row (s7.row hrow (fun g hg e => (hsne g hg).1 e)) (fun g hg e => (hsne g hg).2 e)
  obtain ⟨d1, d2⟩ := leaf_dirt ht hA hs hp8 hrow8 hsv ht8 hlies8 hKK (fun i hi => (hK' i hi).imp id fun ⟨h1, h2, h3⟩ => ⟨h1, Nat.lt_of_lt_of_le h2 (Nat.le_trans s7.size s8.size), h3⟩) hlen hleast
  exact ⟨d1, d2, hs, ht7, hp6⟩

/-- The tree behind a mending, as the laws have it. -/
theorem btx_of_mend {S : Nat → Prop} {w7 : World} {H' : Nat} {T' : Pg H'} {L : List EntV} {sv' : Value} {es' : List EntV} (ht : TreeM K w tb cnt T) (hS : ∀ i, S i ↔ (0 < occ (H + 1) T i ∨ K i ∨ i = tb)) (hA : AtLeaf K w T key c p)
    (hsp : Spares (fun i => i = p.pb ∨ i = tb ∨ p.sv.ownBlock = some i) w w6) (hK' : ∀ i, K' i → K i ∨ w.heap.size ≤ i)
    (hle : ∀ i, i < w.heap.size → totO c p.pb sv' (es' : List (Elem 0)) i ≤ occ (H + 1) T i) (ht' : TreeM K' w7 tb cnt' T') (hok : OkR H' T') (hfl : flat (H' + 1) T' = L) (hcnt : cnt' = (L.length : Nat)) (hr : RisesV L) (hf : ∀ x ∈ L, Fine x.ent)
    (hs7 : Spares (fun i => 0 < totO c p.pb sv' (es' : List (Elem 0)) i ∨ i = tb) w6 w7) (hk7 : Kept (totO c p.pb sv' (es' : List (Elem 0))) w6 (occ (H' + 1) T')) :
    ∃ S' d', BTx S' w7 tb (pagesV T') d' ∧ (pagesV T').flatten = entsV L ∧ (∀ i, S' i → S i ∨ w.heap.size ≤ i) ∧ Spares S w w7 := by
  have hz := hsp.size
  subst hcnt
  subst hfl
  refine ⟨fun i => 0 < occ (H' + 1) T' i ∨ K' i ∨ i = tb, H' + 1, ⟨K', H', T', ht', hok, hr, hf, rfl, rfl, fun i => Iff.rfl⟩, pagesV_flat T', fun i hi => ?_, ?_⟩
  · by_cases hlt : i < w.heap.size
    · left
      rcases hi with h | h | h
      · have h1 := hk7 i (by omega)
        have h2 := hle i hlt
        exact (hS i).2 (.inl (by omega))
      · rcases hK' i h with h | h
        · exact (hS i).2 (.inr (.inl h))
        · omega
      · exact (hS i).2 (.inr (.inr h))
    · exact .inr (by omega)
  · refine (hsp.mono fun i hi => ?_).andThen hs7 (fun i hi => ?_)
    · have h1 := hA.tot i
      unfold totO at h1
      rcases hi with h | h | h
      · rw [if_pos h.symm] at h1
        exact (hS i).2 (.inl (by omega))
      · exact (hS i).2 (.inr (.inr h))
      · rw [if_pos h] at h1
        exact (hS i).2 (.inl (by omega))
    · by_cases hlt : i < w.heap.size
      · left
        rcases hi with h | h
        · have := hle i hlt
          exact (hS i).2 (.inl (by omega))
        · exact (hS i).2 (.inr (.inr h))
      · exact .inr (by omega)

theorem two_set : ∀ (xs : List EntV) (m : Nat) (x : EntV) (v : Value) (val : List UInt8), xs[m]? = some x → (xs.set m ⟨x.kv, v, x.k, val⟩).flatMap EntV.two = (xs.flatMap EntV.two).set (m * 2 + 1) v
  | [], m, x, v, val, h => by simp at h
  | y :: xs, 0, x, v, val, h => by
    simp at h
    subst h
    simp [EntV.two]
  | y :: xs, m + 1, x, v, val, h => by
    have := two_set xs m x v val (by simpa using h)
    rw [List.set_cons_succ, List.flatMap_cons, this, List.flatMap_cons, show (m + 1) * 2 + 1 = (m * 2 + 1) + 1 + 1 by omega]
    simp [EntV.two]

theorem set_mem {α : Type} {xs : List α} {m : Nat} {y z : α} (h : z ∈ xs.set m y) : z = y ∨ z ∈ xs := by
  obtain ⟨j, hj⟩ := List.getElem?_of_mem h
  rw [List.getElem?_set] at hj
  split at hj
  · split at hj
    · cases hj; exact .inl rfl
    · cases hj
  · exact .inr (List.mem_of_getElem? hj)

/-- A value is changed in its place. -/
theorem leaf_set {S : Nat → Prop} {w3 : World} {b cap m : Nat} {x : EntV} {v' : Value} {val : List UInt8} (ht : TreeM K w tb ((flat (H + 1) T).length : Nat) T) (hok : OkR H T) (hr : RisesV (flat (H + 1) T)) (hf : ∀ x ∈ flat (H + 1) T, Fine x.ent) (hS : ∀ i, S i ↔ (0 < occ (H + 1) T i ∨ K i ∨ i = tb)) (hA : AtLeaf K w T key c p)
    (hx : (p.es : List EntV)[m]? = some x) (hsv : p.sv = .slice (some ⟨b, 0, none⟩) p.es.length cap) (hb : Below w.heap.size w w3) (hcp : Copy w.heap.size w3 v' val) (hfine : val.length ≤ 140737488351232) :
    ∃ S' P' d', BTx S' (w3.setCell ⟨b, m * 2 + 1, none⟩ v') tb P' d' ∧ P'.flatten = entsV (c.before ++ (p.es : List EntV).set m ⟨x.kv, v', x.k, val⟩ ++ c.after) ∧ (∀ i, S' i → S i ∨ w.heap.size ≤ i) ∧ Spares S w (w3.setCell ⟨b, m * 2 + 1, none⟩ v') := by
  obtain ⟨p', hp'⟩ : ∃ p' : Pg 0, p' = ⟨p.pb, p.sv, p.fv, ((p.es : List EntV).set m ⟨x.kv, v', x.k, val⟩ : List (Elem 0))⟩ := ⟨_, rfl⟩
  obtain ⟨hat, hfv, hles⟩ := lies_pg.1 hA.lies
  have hbown : p.sv.ownBlock = some b := by rw [hsv]; rfl
  have hbl := (hat.row.lt b hbown).2
  have hml : m < (p.es : List EntV).length := (List.getElem?_eq_some_iff.1 hx).1
  have htot : ∀ i, occ (H + 1) T i = c.occ i + ((if p.pb = i then 1 else 0) + (if p.sv.ownBlock = some i then 1 else 0)) := fun i => by
    rw [hA.tot i]
    unfold totO
    rw [occL_zero, Nat.add_zero]
  have htb := block_lt ht.tree
  have hob := ht.one b
  rw [htot, if_pos hbown] at hob
  have hbtb : tb ≠ b := fun e => by rw [if_pos e] at hob; omega
  have hbpb : p.pb ≠ b := fun e => by rw [if_pos e] at hob; omega
  have hbc : c.occ b = 0 := by omega
  have hbK : ¬ K b := fun hK => by
    have := (ht.kfree b hK).1
    rw [htot, if_pos hbown] at this
    omega
  obtain ⟨w5, hw5⟩ : ∃ w5, w3.setCell ⟨b, m * 2 + 1, none⟩ v' = w5 := ⟨_, rfl⟩
  rw [hw5]
  have hset := spares_set w3 ⟨b, m * 2 + 1, none⟩ v'
  rw [hw5] at hset
  have hsp : Spares (fun i => i = b) w w5 := (Spares.of_new (S := fun i => i = b) hb).andThen hset (fun i hi => .inl hi)
  have hz := hb.size
  have hz5 := hset.size
  have hvb : ∀ g, v'.ownBlock = some g → w.heap.size ≤ g ∧ g < w3.heap.size := fun g hg => hcp.lt g hg
  have hrow3 := (Spares.of_new (S := fun _ => False) hb).row hat.row (fun _ _ => id)
  have hrow5 : w5.ownsRow 0 46 2 p.sv (p'.es : List EntV).length ((p'.es : List EntV).flatMap EntV.two) := by
    rw [hp']
    dsimp only
    rw [List.length_set, two_set _ _ _ _ _ hx]
    rcases hrow3.2 with ⟨e, _⟩ | ⟨g, cap', cur', e, hB, hg, q1, q2, q3, q4⟩
    · rw [e] at hbown; cases hbown
    · rw [e] at hbown
      have e2 : g = b := by simpa [Value.ownBlock] using hbown
      subst e2
      have q4' : cur'.toList.take ((p.es : List EntV).length * 2) = (p.es : List EntV).flatMap EntV.two := q4
      refine ⟨by rw [List.length_set, two_length], .inr ⟨g, cap', cur'.setIfInBounds (m * 2 + 1) v', e, hB, by rw [← hw5]; exact heap_setCell_same _ _ _ _ _ _ hg, q1, q2, by rw [Array.size_setIfInBounds]; exact q3, ?_⟩⟩
      rw [Array.toList_setIfInBounds, ← q4', List.take_set]
  have hmem : ∀ y ∈ (p'.es : List EntV), y = ⟨x.kv, v', x.k, val⟩ ∨ y ∈ (p.es : List EntV) := fun y hy => by rw [hp'] at hy; exact set_mem hy
  have hxm : x ∈ (p.es : List EntV) := List.mem_of_getElem? hx
  have hsays : ∀ y, y ∈ (p.es : List EntV) → Lies 0 (fun i => K i ∨ v'.ownBlock = some i) w5 y := fun y hy =>
    ((hles y hy).keep hsp (fun i hi => by simp [occ] at hi) (fun i hi e => by have e2 : i = b := e; subst e2; exact hbK hi)).mono fun i hi => .inl hi
  have hvne : ∀ g, v'.ownBlock = some g → g ≠ b := fun g hg e => by have := (hvb g hg).1; omega
  have hlies5 : Lies 1 (fun i => K i ∨ v'.ownBlock = some i) w5 p' := by
    refine lies_pg.2 ⟨⟨?_, ?_⟩, ?_, fun y hy => ?_⟩
    · rw [hp']
      exact (hsp.block _ (block_lt hat.blk) hbpb).trans hat.blk
    · have : p'.sv = p.sv := by rw [hp']
      rw [this]
      exact hrow5
    · rw [hp']
      show p.fv = fvL 0 ((p.es : List EntV).set m ⟨x.kv, v', x.k, val⟩)
      rw [hfv]
      rcases hes : (p.es : List EntV) with _ | ⟨y, ys⟩
      · rfl
      · cases m with
        | zero =>
          rw [hes] at hx
          simp at hx
          subst hx
          rfl
        | succ m => rfl
    · rcases hmem y hy with rfl | hy
      · have h1 := hsays x hxm
        exact ⟨h1.1, (hset.row hcp (fun g hg e => hvne g hg e) |> fun h => (Copy.says (B := w.heap.size) h)), h1.2.2.1, fun g hg => .inr hg⟩
      · exact hsays y hy
  have hctx5 : c.Lies (fun i => K i ∨ v'.ownBlock = some i) w5 p'.pb := by
    have : p'.pb = p.pb := by rw [hp']
    rw [this]
    refine Ctx.Lies.mono (fun i hi => .inl hi) (Ctx.Lies.keep hsp (fun i hi e => ?_) hA.ctx (fun i hi e => ?_))
    · have e2 : i = b := e
      subst e2
      exact hbK hi
    · have e2 : i = b := e
      subst e2
      omega
  have hfirst : c.Firsts p'.fv := by
    have : p'.fv = p.fv := by rw [hp']
    rw [this]
    exact hA.firsts
  have hpl : Lies ((c.plug p').1 + 1) (fun i => K i ∨ v'.ownBlock = some i) w5 (c.plug p').2 := (c.plug_lies p').2 ⟨hlies5, hctx5, hfirst⟩
  have hokp : c.OkP p' := by
    have hlen : (p'.es : List EntV).length = (p.es : List EntV).length := by rw [hp']; exact List.length_set
    have := hA.okp
    cases c with
    | top =>
      show (p'.es : List EntV).length ≤ 4
      rw [hlen]
      exact this
    | down =>
      obtain ⟨h1, h2, _⟩ := okE_pg.1 this
      exact okE_pg.2 ⟨by rw [show p'.es.length = _ from hlen]; exact h1, by rw [show p'.es.length = _ from hlen]; exact h2, fun _ _ => trivial⟩
  have hplok : OkR (c.plug p').1 (c.plug p').2 := (c.plug_ok p').2 ⟨hokp, hA.ok⟩
  have hocc : ∀ i, occ ((c.plug p').1 + 1) (c.plug p').2 i = occ (H + 1) T i := fun i => by
    rw [c.plug_occ p' i, htot, occ_pg, hp']
    dsimp only
    rw [occL_zero, Nat.add_zero]
  have hfl : flat ((c.plug p').1 + 1) (c.plug p').2 = c.before ++ (p.es : List EntV).set m ⟨x.kv, v', x.k, val⟩ ++ c.after := by
    rw [c.plug_flat p', flat_pg, hp', flatL_zero]
  have hkeys : (c.before ++ (p.es : List EntV).set m ⟨x.kv, v', x.k, val⟩ ++ c.after).map EntV.k = (flat (H + 1) T).map EntV.k := by
    rw [hA.flat]
    simp only [List.map_append, List.map_set]
    congr 2
    apply List.ext_getElem?
    intro j
    rw [List.getElem?_set]
    split
    · rename_i e
      subst e
      rw [List.getElem?_map, hx, if_pos (by rw [List.length_map]; exact hml)]
      rfl
    · rfl
  have hlen : (c.before ++ (p.es : List EntV).set m ⟨x.kv, v', x.k, val⟩ ++ c.after).length = (flat (H + 1) T).length := by
    have := congrArg List.length hkeys
    simpa using this
  have hroot : (c.plug p').2.pb = T.pb := by
    rw [c.plug_pb p', show p'.pb = p.pb by rw [hp']]
    exact hA.root
  refine ⟨fun i => 0 < occ (H + 1) T i ∨ (K i ∨ v'.ownBlock = some i) ∨ i = tb, pagesV (c.plug p').2, (c.plug p').1 + 1, ⟨fun i => K i ∨ v'.ownBlock = some i, (c.plug p').1, (c.plug p').2, ⟨?_, hpl, fun i => by rw [hocc]; exact ht.one i, fun i hi => ?_⟩, hplok, ?_, ?_, rfl, rfl, fun i => by rw [hocc]⟩, by rw [pagesV_flat, hfl], fun i hi => ?_, ?_⟩
  · rw [hroot, hfl, hlen]
    exact (hsp.block _ htb hbtb).trans ht.tree
  · rw [hocc]
    rcases hi with h | h
    · obtain ⟨h1, h2, h3⟩ := ht.kfree i h
      exact ⟨h1, h2, by omega⟩
    · have h1 := hvb i h
      refine ⟨?_, by omega, by omega⟩
      rcases Nat.eq_zero_or_pos (occ (H + 1) T i) with h2 | h2
      · exact h2
      · have := ht.lies.lt i h2; omega
  · rw [hfl]
    have h1 : ((c.before ++ (p.es : List EntV).set m ⟨x.kv, v', x.k, val⟩ ++ c.after).map EntV.k).Pairwise fun a b => Op.bytesLess a b = true := by
      rw [hkeys, List.pairwise_map]
      exact hr
    rw [List.pairwise_map] at h1
    exact h1
  · rw [hfl]
    intro y hy
    have hfp : ∀ z ∈ (p.es : List EntV), Fine z.ent := fun z hz => hf z (by rw [hA.flat]; simp [hz])
    rcases List.mem_append.1 hy with hy | hy
    · rcases List.mem_append.1 hy with hy | hy
      · exact hf y (by rw [hA.flat]; simp [hy])
      · rcases set_mem hy with rfl | hy
        · exact ⟨(hfp x hxm).1, hfine⟩
        · exact hfp y hy
    · exact hf y (by rw [hA.flat]; simp [hy])
  · by_cases hlt : i < w.heap.size
    · left
      rcases hi with h | (h | h) | h
      · exact (hS i).2 (.inl h)
      · exact (hS i).2 (.inr (.inl h))
      · have := (hvb i h).1; omega
      · exact (hS i).2 (.inr (.inr h))
    · exact .inr (by omega)
  · refine hsp.mono fun i hi => ?_
    have e2 : i = b := hi
    subst e2
    refine (hS i).2 (.inl ?_)
    rw [htot, if_pos hbown]
    omega
end
end Go.Proofs.Ytjfipejfejmlaaa
