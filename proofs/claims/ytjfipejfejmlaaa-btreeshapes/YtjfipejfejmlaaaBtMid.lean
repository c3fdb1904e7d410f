/- A leaf's entries among those of the other leaves; the tree as the laws have it. -/
import Derived.Test.YtjfipejfejmlaaaBtDel
namespace Go.Proofs.Ytjfipejfejmlaaa
open Go.RowKit Go.Shelf
set_option linter.unusedVariables false
set_option linter.unusedSimpArgs false
set_option maxRecDepth 20000

section
variable {A B C : List Ent} {key : List UInt8}

theorem hitK_past : ∀ {C : List Ent}, (∀ x ∈ C, Op.bytesLess key x.1 = true) → hitK C key = false
  | [], _ => rfl
  | x :: C, h => by
    have h1 := h x (by simp)
    rw [hitK_cons]
    split
    · exact hitK_past fun y hy => h y (by simp [hy])
    · rw [beq_eq_false_iff_ne]
      exact fun e => by rw [e, less_irrefl] at h1; cases h1

theorem not_less {a b : List UInt8} (h : Op.bytesLess a b = true) : ¬ Op.bytesLess b a = true := fun h2 => by
  have := less_trans _ _ _ h h2
  rw [less_irrefl] at this
  cases this

theorem putL_past (v : List UInt8) (h : ∀ x ∈ C, Op.bytesLess key x.1 = true) : putL C (key, v) = (key, v) :: C := by
  rcases C with _ | ⟨x, C⟩
  · rfl
  · have h1 := h x (by simp)
    rw [putL_cons, if_neg (not_less h1), if_neg (fun e : x.1 = key => by rw [e, less_irrefl] at h1; cases h1)]

theorem delL_past (h : ∀ x ∈ C, Op.bytesLess key x.1 = true) : delL C key = C := by
  rcases C with _ | ⟨x, C⟩
  · rfl
  · have h1 := h x (by simp)
    rw [delL_cons, if_neg (not_less h1), if_neg (fun e : x.1 = key => by rw [e, less_irrefl] at h1; cases h1)]

theorem lookL_past (h : ∀ x ∈ C, Op.bytesLess key x.1 = true) : lookL C key = none := by
  unfold lookL
  rw [hitK_past h]
  rfl

theorem hitK_mid (hA : ∀ x ∈ A, Op.bytesLess x.1 key = true) (hC : ∀ x ∈ C, Op.bytesLess key x.1 = true) : hitK (A ++ B ++ C) key = hitK B key := by
  induction A with
  | cons x A ih =>
    rw [List.cons_append, List.cons_append, hitK_cons, if_pos (hA x (by simp))]
    exact ih fun y hy => hA y (by simp [hy])
  | nil =>
    rw [List.nil_append]
    induction B with
    | nil => rw [List.nil_append, hitK_past hC]; rfl
    | cons x B ih =>
      rw [List.cons_append, hitK_cons, hitK_cons, ih]

theorem lookL_mid (hA : ∀ x ∈ A, Op.bytesLess x.1 key = true) (hC : ∀ x ∈ C, Op.bytesLess key x.1 = true) : lookL (A ++ B ++ C) key = lookL B key := by
  induction A with
  | cons x A ih =>
    rw [List.cons_append, List.cons_append, lookL_cons, if_pos (hA x (by simp))]
    exact ih fun y hy => hA y (by simp [hy])
  | nil =>
    rw [List.nil_append]
    induction B with
    | nil => rw [List.nil_append, lookL_past hC]; rfl
    | cons x B ih =>
      rw [List.cons_append, lookL_cons, lookL_cons, ih]

theorem putL_mid (v : List UInt8) (hA : ∀ x ∈ A, Op.bytesLess x.1 key = true) (hC : ∀ x ∈ C, Op.bytesLess key x.1 = true) : putL (A ++ B ++ C) (key, v) = A ++ putL B (key, v) ++ C := by
  induction A with
  | cons x A ih =>
    rw [List.cons_append, List.cons_append, putL_cons, if_pos (hA x (by simp)), ih fun y hy => hA y (by simp [hy])]
    rfl
  | nil =>
    rw [List.nil_append, List.nil_append]
    induction B with
    | nil => rw [List.nil_append, putL_past v hC]; rfl
    | cons x B ih =>
      rw [List.cons_append, putL_cons, putL_cons, ih]
      split
      · rfl
      · split <;> rfl

theorem delL_mid (hA : ∀ x ∈ A, Op.bytesLess x.1 key = true) (hC : ∀ x ∈ C, Op.bytesLess key x.1 = true) : delL (A ++ B ++ C) key = A ++ delL B key ++ C := by
  induction A with
  | cons x A ih =>
    rw [List.cons_append, List.cons_append, delL_cons, if_pos (hA x (by simp)), ih fun y hy => hA y (by simp [hy])]
    rfl
  | nil =>
    rw [List.nil_append, List.nil_append]
    induction B with
    | nil => rw [List.nil_append, delL_past hC]; rfl
    | cons x B ih =>
      rw [List.cons_append, delL_cons, delL_cons, ih]
      split
      · rfl
      · split <;> rfl
end

/-! ### How deep, how many -/

theorem sum_le_mul {α : Type} (f : α → Nat) (b : Nat) : ∀ (l : List α), (∀ x ∈ l, f x ≤ b) → (l.map f).sum ≤ l.length * b
  | [], _ => by simp
  | x :: l, h => by
    have h1 := h x (by simp)
    have h2 := sum_le_mul f b l fun y hy => h y (by simp [hy])
    simp only [List.map_cons, List.sum_cons, List.length_cons, Nat.add_mul]
    omega

theorem mul_le_sum {α : Type} (f : α → Nat) (b : Nat) : ∀ (l : List α), (∀ x ∈ l, b ≤ f x) → l.length * b ≤ (l.map f).sum
  | [], _ => by simp
  | x :: l, h => by
    have h1 := h x (by simp)
    have h2 := mul_le_sum f b l fun y hy => h y (by simp [hy])
    simp only [List.map_cons, List.sum_cons, List.length_cons, Nat.add_mul]
    omega

theorem flatL_length (h : Nat) (es : List (Elem h)) : (flatL h es).length = (es.map fun e => (flat h e).length).sum := by
  induction es with
  | nil => rfl
  | cons e es ih => rw [flatL_cons, List.length_append, ih]; simp

/-- Elements of height h hold between 2^h and 4^h entries. -/
theorem flat_bounds : ∀ {h : Nat} {e : Elem h}, OkE h e → 2 ^ h ≤ (flat h e).length ∧ (flat h e).length ≤ 4 ^ h
  | 0, e, _ => by simp [flat]
  | h + 1, (e : PgOf (Elem h)), ho => by
    obtain ⟨h1, h2, h3⟩ := okE_pg.1 ho
    rw [flat_pg, flatL_length]
    have a := mul_le_sum (fun e => (flat h e).length) (2 ^ h) e.es fun x hx => (flat_bounds (h3 x hx)).1
    have b := sum_le_mul (fun e => (flat h e).length) (4 ^ h) e.es fun x hx => (flat_bounds (h3 x hx)).2
    have c : 2 * 2 ^ h ≤ e.es.length * 2 ^ h := Nat.mul_le_mul_right _ h1
    have d : e.es.length * 4 ^ h ≤ 4 * 4 ^ h := Nat.mul_le_mul_right _ h2
    rw [Nat.pow_succ, Nat.pow_succ]
    omega

theorem lvs_ok : ∀ {h : Nat} {p : Pg h}, OkE (h + 1) p → (∀ q ∈ lvs h p, OkE 1 q) ∧ 1 ≤ (lvs h p).length
  | 0, p, ho => ⟨fun q hq => by rw [List.mem_singleton.1 hq]; exact ho, by simp [lvs]⟩
  | h + 1, p, ho => by
    obtain ⟨h1, h2, h3⟩ := okE_pg.1 ho
    refine ⟨fun q hq => ?_, ?_⟩
    · obtain ⟨x, hx, hq⟩ := List.mem_flatMap.1 hq
      exact (lvs_ok (h3 x hx)).1 q hq
    · have : (lvs (h + 1) p).length = ((p.es : List (Pg h)).map fun q => (lvs h q).length).sum := by
        show ((p.es : List (Pg h)).flatMap (lvs h)).length = _
        rw [List.length_flatMap]
      rw [this]
      have := mul_le_sum (fun q => (lvs h q).length) 1 (p.es : List (Pg h)) fun x hx => (lvs_ok (h3 x hx)).2
      omega

theorem lvs_many {h : Nat} {p : Pg (h + 1)} (ho : OkE (h + 2) p) : 2 ≤ (lvs (h + 1) p).length := by
  obtain ⟨h1, h2, h3⟩ := okE_pg.1 ho
  have : (lvs (h + 1) p).length = ((p.es : List (Pg h)).map fun q => (lvs h q).length).sum := by
    show ((p.es : List (Pg h)).flatMap (lvs h)).length = _
    rw [List.length_flatMap]
  rw [this]
  have := mul_le_sum (fun q => (lvs h q).length) 1 (p.es : List (Pg h)) fun x hx => (lvs_ok (h3 x hx)).2
  omega

def entsV (xs : List EntV) : List Ent := xs.map EntV.ent
def pagesV {H : Nat} (T : Pg H) : List (List Ent) := (lvs H T).map fun q => entsV q.es

theorem pagesV_flat {H : Nat} (T : Pg H) : (pagesV T).flatten = entsV (flat (H + 1) T) := by
  unfold pagesV
  rw [← lvs_flat H T, entsV]
  induction lvs H T with
  | nil => rfl
  | cons q l ih => rw [List.map_cons, List.flatten_cons, ih, List.flatMap_cons, List.map_append]; rfl

theorem good_of {H : Nat} {T : Pg H} (hok : OkR H T) (hr : RisesV (flat (H + 1) T)) (hf : ∀ x ∈ flat (H + 1) T, Fine x.ent) : Good (pagesV T) (H + 1) := by
  have hfl := pagesV_flat T
  have hlen : (pagesV T).flatten.length = (flat (H + 1) T).length := by rw [hfl, entsV, List.length_map]
  have hpl : (pagesV T).length = (lvs H T).length := by unfold pagesV; rw [List.length_map]
  cases H with
  | zero =>
    have h1 : lvs 0 T = [T] := rfl
    refine ⟨by rw [hfl]; exact (risesV_iff _).2 hr, fun e he => ?_, fun p hp => ?_, fun h => ?_, ?_, ?_, by omega, fun h => by omega, fun h => by omega⟩
    · rw [hfl] at he
      obtain ⟨x, hx, rfl⟩ := List.mem_map.1 he
      exact hf x hx
    · unfold pagesV at hp
      rw [h1, List.map_cons, List.map_nil, List.mem_singleton] at hp
      rw [hp, entsV, List.length_map]
      exact hok
    · rw [hpl, h1] at h
      simp at h
    · rw [hpl, h1]; simp
    · rw [hpl, h1]; simp
  | succ H =>
    have h2 := lvs_many (show OkE (H + 2) T from hok)
    have h3 := (lvs_ok (show OkE (H + 2) T from hok)).1
    have hb := flat_bounds (show OkE (H + 2) T from hok)
    refine ⟨by rw [hfl]; exact (risesV_iff _).2 hr, fun e he => ?_, fun p hp => ?_, fun h p hp => ?_, ?_, ?_, by omega, fun h => by rw [hlen]; exact hb.1, fun h => by rw [hlen]; exact hb.2⟩
    · rw [hfl] at he
      obtain ⟨x, hx, rfl⟩ := List.mem_map.1 he
      exact hf x hx
    · obtain ⟨q, hq, rfl⟩ := List.mem_map.1 hp
      have := (okE_pg.1 (h3 q hq)).2.1
      rw [entsV, List.length_map]
      exact this
    · obtain ⟨q, hq, rfl⟩ := List.mem_map.1 hp
      have := (okE_pg.1 (h3 q hq)).1
      rw [entsV, List.length_map]
      exact this
    · rw [hpl]; omega
    · rw [hpl]; omega

/-- THE TREE: its blocks are those of S. -/
def BTx (S : Nat → Prop) (w : World) (tb : Nat) (P : List (List Ent)) (d : Nat) : Prop :=
  ∃ (K : Nat → Prop) (H : Nat) (T : Pg H), TreeM K w tb ((flat (H + 1) T).length : Nat) T ∧ OkR H T ∧ RisesV (flat (H + 1) T) ∧ (∀ x ∈ flat (H + 1) T, Fine x.ent) ∧ P = pagesV T ∧ d = H + 1 ∧ ∀ i, S i ↔ (0 < occ (H + 1) T i ∨ K i ∨ i = tb)

theorem TreeM.keep {K R : Nat → Prop} {w w' : World} {tb : Nat} {cnt : Int} {H : Nat} {T : Pg H} (ht : TreeM K w tb cnt T) (hk : Spares R w w') (h1 : ∀ i, 0 < occ (H + 1) T i → ¬ R i) (h2 : ∀ i, K i → ¬ R i) (h3 : ¬ R tb) : TreeM K w' tb cnt T :=
  ⟨(hk.block _ (block_lt ht.tree) h3).trans ht.tree, ht.lies.keep hk h1 h2, ht.one, fun i hi => ⟨(ht.kfree i hi).1, (ht.kfree i hi).2.1, Nat.lt_of_lt_of_le (ht.kfree i hi).2.2 hk.size⟩⟩

theorem TreeM.new {K : Nat → Prop} {w w' : World} {tb : Nat} {cnt : Int} {H : Nat} {T : Pg H} (ht : TreeM K w tb cnt T) (hb : Below w.heap.size w w') : TreeM K w' tb cnt T :=
  ht.keep (R := fun _ => False) (Spares.of_new hb) (fun _ _ => id) (fun _ _ => id) id

theorem btx_keep {S R : Nat → Prop} {w w' : World} {tb d : Nat} {P : List (List Ent)} (h : BTx S w tb P d) (hk : Spares R w w') (hd : ∀ i, S i → ¬ R i) : BTx S w' tb P d := by
  obtain ⟨K, H, T, h1, h2, h3, h4, h5, h6, h7⟩ := h
  exact ⟨K, H, T, h1.keep hk (fun i hi => hd i ((h7 i).2 (.inl hi))) (fun i hi => hd i ((h7 i).2 (.inr (.inl hi)))) (hd tb ((h7 tb).2 (.inr (.inr rfl)))), h2, h3, h4, h5, h6, h7⟩

theorem btx_lt {S : Nat → Prop} {w : World} {tb d : Nat} {P : List (List Ent)} (h : BTx S w tb P d) : ∀ i, S i → i < w.heap.size := fun i hi => by
  obtain ⟨K, H, T, h1, _, _, _, _, _, h7⟩ := h
  rcases (h7 i).1 hi with h | h | h
  · exact h1.lies.lt i h
  · exact (h1.kfree i h).2.2
  · rw [h]; exact block_lt h1.tree

theorem btx_good {S : Nat → Prop} {w : World} {tb d : Nat} {P : List (List Ent)} (h : BTx S w tb P d) : Good P d := by
  obtain ⟨K, H, T, h1, h2, h3, h4, rfl, rfl, h7⟩ := h
  exact good_of h2 h3 h4

theorem btx_height {S : Nat → Prop} {w : World} {tb d : Nat} {P : List (List Ent)} (h : BTx S w tb P d) (hn : P.flatten.length < 100000) : d < 20 := by
  have hg := btx_good h
  rcases Nat.lt_or_ge d 20 with h1 | h1
  · exact h1
  · have h2 := hg.few (by omega)
    have h3 : 2 ^ 20 ≤ 2 ^ d := Nat.pow_le_pow_right (by omega) h1
    omega
end Go.Proofs.Ytjfipejfejmlaaa
