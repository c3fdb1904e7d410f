/- Contract of Tree.mend. -/
import Derived.Test.YtjfipejfejmlaaaBtDirt
namespace Go.Proofs.Ytjfipejfejmlaaa
open Go.RowKit Go.Shelf
set_option linter.unusedVariables false
set_option linter.unusedSimpArgs false
set_option maxRecDepth 20000
attribute [local go_sem] Oper.semAt_some

/-- A tree whose block is tb, right but for how full its root is. -/
structure TreeM (K : Nat → Prop) (w : World) (tb : Nat) (cnt : Int) {H : Nat} (T : Pg H) : Prop where
  tree : w.heap[tb]? = some (.cells #[ptr T.pb, .int .i64 cnt] 56 (0, 0))
  lies : Lies (H + 1) K w T
  one : ∀ i, occ (H + 1) T i + (if tb = i then 1 else 0) ≤ 1
  kfree : ∀ i, K i → occ (H + 1) T i = 0 ∧ tb ≠ i ∧ i < w.heap.size

/-- How many pages of one page stand above. -/
def Thin : Nat → (H : Nat) → Pg H → Prop
  | 0, H, T => OkR H T
  | _ + 1, 0, _ => False
  | j + 1, H + 1, T => ∃ q : Pg H, (T.es : List (Pg H)) = [q] ∧ Thin j H q

theorem okR_of {h : Nat} {p : Pg h} (hp : OkE (h + 1) p) : OkR h p := by
  cases h with
  | zero => exact (okE_pg.1 hp).2.1
  | succ h => exact hp

theorem ctx_top {h : Nat} {c : Ctx h} (hc : c.turns = []) : c = .top := by
  cases c with
  | top => rfl
  | down pb sv fv pre post up => simp [Ctx.turns] at hc

theorem TreeM.down {K : Nat → Prop} {w : World} {tb : Nat} {cnt : Int} {H : Nat} {T : Pg (H + 1)} {q : Pg H} (ht : TreeM K w tb cnt T) (hq : (T.es : List (Pg H)) = [q]) :
    TreeM K (w.setCell ⟨tb, 0, none⟩ (ptr q.pb)) tb cnt q ∧ flat (H + 1) q = flat (H + 2) T ∧ (∀ i, occ (H + 1) q i ≤ occ (H + 2) T i) ∧ Spares (fun i => i = tb) w (w.setCell ⟨tb, 0, none⟩ (ptr q.pb)) := by
  have hql : Lies (H + 1) K w q := (lies_pg.1 ht.lies).2.2 q (by rw [show T.es = [q] from hq]; simp)
  have hoc : ∀ i, occ (H + 1) q i ≤ occ (H + 2) T i := fun i => by
    rw [occ_pg (H + 1), show T.es = [q] from hq, occL_cons]
    omega
  have hsp := spares_set w ⟨tb, 0, none⟩ (ptr q.pb)
  have hK : ∀ i, K i → ¬ i = tb := fun i hi e => (ht.kfree i hi).2.1 e.symm
  refine ⟨⟨heap_setCell_same _ _ _ _ _ _ ht.tree, hql.keep hsp (fun i hi e => ?_) hK, fun i => ?_, fun i hi => ?_⟩, ?_, hoc, hsp⟩
  · have h1 : occ (H + 2) T i + (if tb = i then 1 else 0) ≤ 1 := ht.one i
    have h2 := hoc i
    rw [if_pos (show tb = i from (show i = tb from e).symm)] at h1
    omega
  · have h1 : occ (H + 2) T i + (if tb = i then 1 else 0) ≤ 1 := ht.one i
    have := hoc i
    omega
  · obtain ⟨h1, h2, h3⟩ : occ (H + 2) T i = 0 ∧ tb ≠ i ∧ i < w.heap.size := ht.kfree i hi
    have := hoc i
    exact ⟨by omega, h2, Nat.lt_of_lt_of_le h3 hsp.size⟩
  · rw [flat_pg (H + 1), show T.es = [q] from hq, flatL_cons, flatL_nil, List.append_nil]

/-- The root is shared out, and stands under a new one. -/
theorem root_new {K : Nat → Prop} {w w1 w2 : World} {tb : Nat} {cnt : Int} {h : Nat} {pb : Nat} {sv fv : Value} {es : List (Elem h)} {qs : List (Pg h)} {R : Nat} {sR : Value}
    (hd : Dirt K w tb cnt (.top : Ctx h) pb sv fv es) (hq : qs.map (·.es) = shareL es) (hf : Fresh h K w w1 (occL h es) qs) (hb : Below w.heap.size w w1) (hb2 : Below w1.heap.size w1 w2) {fR : Value}
    (hR : Lies (h + 2) K w2 (⟨R, sR, fR, qs⟩ : Pg (h + 1))) (hRr : w2.ownsRow w1.heap.size 53 1 sR qs.length (rowC (h + 1) qs)) (hRb : w1.heap.size ≤ R) :
    TreeM K (w2.setCell ⟨tb, 0, none⟩ (ptr R)) tb cnt (⟨R, sR, fR, qs⟩ : Pg (h + 1)) ∧ flat (h + 2) (⟨R, sR, fR, qs⟩ : Pg (h + 1)) = flatL h es ∧ (∃ j, j ≤ 2 ∧ Thin j (h + 1) (⟨R, sR, fR, qs⟩ : Pg (h + 1))) ∧ Spares (fun i => i = tb) w (w2.setCell ⟨tb, 0, none⟩ (ptr R)) ∧
      Kept (totO (.top : Ctx h) pb sv es) w (occ (h + 2) (⟨R, sR, fR, qs⟩ : Pg (h + 1))) := by
  have hz := hb.size
  have hz2 := hb2.size
  have hb12 : Below w.heap.size w w2 := hb.trans (hb2.mono hz)
  have htb := block_lt hd.tree
  have htot : ∀ i, totO (.top : Ctx h) pb sv es i = (if pb = i then 1 else 0) + (if sv.ownBlock = some i then 1 else 0) + occL h es i := fun i => by simp [totO, Ctx.occ]
  have hon := occ_new (w := w1) (B := w1.heap.size) (h := h + 1) (Nat.le_refl _) hf.lies hR hRr hRb
  obtain ⟨n1, n2, n3⟩ := hon
  have hkept : Kept (totO (.top : Ctx h) pb sv es) w (occ (h + 2) (⟨R, sR, fR, qs⟩ : Pg (h + 1))) := fun i hi => by
    rw [n1 i (by omega), htot]
    have := hf.low i hi
    omega
  have hone : ∀ i, occ (h + 2) (⟨R, sR, fR, qs⟩ : Pg (h + 1)) i + (if tb = i then 1 else 0) ≤ 1 := fun i => by
    by_cases hi : i < w.heap.size
    · have := hkept i hi
      have := hd.one i
      omega
    · rw [if_neg (by omega)]
      by_cases hi1 : i < w1.heap.size
      · rw [n1 i hi1]
        have := hf.high i (by omega)
        omega
      · exact n3 i (by omega)
  have hsp := spares_set w2 ⟨tb, 0, none⟩ (ptr R)
  have hK : ∀ i, K i → ¬ i = tb := fun i hi e => (hd.kfree i hi).2.1 e.symm
  have hroot : (Ctx.top : Ctx h).root pb = pb := rfl
  refine ⟨⟨heap_setCell_same _ _ _ _ _ _ ((hb12.block _ htb).trans hd.tree), hR.keep hsp (fun i (hi : 0 < occ (h + 2) (⟨R, sR, fR, qs⟩ : Pg (h + 1)) i) e => ?_) hK, hone, fun i hi => ?_⟩, ?_, ?_, (Spares.of_new hb12).andThen hsp (fun i hi => .inl hi), hkept⟩
  · have h1 := hone i
    rw [if_pos (show tb = i from (show i = tb from e).symm)] at h1
    omega
  · obtain ⟨h1, h2, h3⟩ := hd.kfree i hi
    have h4 := hkept i h3
    exact ⟨by show occ (h + 2) (⟨R, sR, fR, qs⟩ : Pg (h + 1)) i = 0; omega, h2, by have := hsp.size; have := hb12.size; omega⟩
  · rw [flat_pg (h + 1), flat_all qs, allEs_flatten qs, hq, shareL_flat]
  · have hok : ∀ q ∈ qs, ∀ e ∈ q.es, OkE h e := fun q hq' e he => by
      have h1 : q.es ∈ qs.map (·.es) := List.mem_map.2 ⟨q, hq', rfl⟩
      rw [hq] at h1
      unfold shareL at h1
      split at h1
      · rw [List.mem_singleton.1 h1] at he
        exact hd.oke e he
      · simp only [List.mem_cons, List.not_mem_nil, or_false] at h1
        rcases h1 with h1 | h1 <;> rw [h1] at he
        · exact hd.oke e (List.mem_of_mem_take he)
        · exact hd.oke e (List.mem_of_mem_drop he)
    by_cases h4 : es.length ≤ 4
    · rw [shareL, if_pos h4] at hq
      obtain ⟨q, hq1⟩ : ∃ q, qs = [q] := by
        have hl := congrArg List.length hq
        rw [List.length_map] at hl
        match qs, hl with
        | [q], _ => exact ⟨q, rfl⟩
      · rw [hq1] at hq ⊢
        have hqe : q.es = es := by simpa using hq
        by_cases hbig : h = 0 ∨ 2 ≤ es.length
        · refine ⟨1, by omega, q, rfl, ?_⟩
          show OkR h q
          cases h with
          | zero => show q.es.length ≤ 4; rw [hqe]; exact h4
          | succ h =>
            refine okE_pg.2 ⟨by rw [hqe]; omega, by rw [hqe]; exact h4, fun e he => ?_⟩
            rw [hqe] at he
            exact hd.oke e he
        · cases h with
          | zero => omega
          | succ h =>
            have hl := hd.least (.inr (by omega))
            match es, hl, hd, hqe, hbig with
            | [e], _, hd, hqe, _ =>
              exact ⟨2, Nat.le_refl _, q, rfl, e, hqe, okR_of (hd.oke e (by simp))⟩
            | e :: f :: es, _, _, _, hbig => simp at hbig
    · have h5 := hd.most
      rw [shareL, if_neg h4] at hq
      obtain ⟨q, r, hqr⟩ : ∃ q r, qs = [q, r] := by
        have hl := congrArg List.length hq
        rw [List.length_map] at hl
        match qs, hl with
        | [q, r], _ => exact ⟨q, r, rfl⟩
      rw [hqr] at hq hok ⊢
      simp only [List.map_cons, List.map_nil, List.cons.injEq, and_true] at hq
      refine ⟨0, by omega, ?_⟩
      refine okE_pg.2 ⟨by simp, by simp, fun x hx => ?_⟩
      simp only [List.mem_cons, List.not_mem_nil, or_false] at hx
      rcases hx with rfl | rfl
      · exact okE_pg.2 ⟨by rw [hq.1, List.length_take]; omega, by rw [hq.1, List.length_take]; omega, hok x (by simp)⟩
      · exact okE_pg.2 ⟨by rw [hq.2, List.length_drop]; omega, by rw [hq.2, List.length_drop]; omega, hok x (by simp)⟩
end Go.Proofs.Ytjfipejfejmlaaa
