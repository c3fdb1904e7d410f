/- The tree's pages: what they hold, and where they lie. -/
import Derived.Test.YtjfipejfejmlaaaBtApi
namespace Go.Proofs.Ytjfipejfejmlaaa
open Go.RowKit Go.Shelf
set_option linter.unusedVariables false
set_option linter.unusedSimpArgs false
set_option maxRecDepth 20000

/-- A page: its block, its row, its first key, its elements. -/
structure PgOf (α : Type) where
  pb : Nat
  sv : Value
  fv : Value
  es : List α

/-- What a page of height h holds: entries, or pages. -/
@[reducible] def Elem : Nat → Type
  | 0 => EntV
  | h + 1 => PgOf (Elem h)

abbrev Pg (h : Nat) : Type := PgOf (Elem h)

def nilS : Value := .slice none 0 0

/-- All entries, in order. -/
def flat : (h : Nat) → Elem h → List EntV
  | 0, x => [x]
  | h + 1, (p : PgOf (Elem h)) => p.es.flatMap (flat h)

def flatL (h : Nat) (es : List (Elem h)) : List EntV := es.flatMap (flat h)

theorem flatL_nil (h : Nat) : flatL h [] = [] := rfl
theorem flatL_cons (h : Nat) (e : Elem h) (es : List (Elem h)) : flatL h (e :: es) = flat h e ++ flatL h es := by simp [flatL]
theorem flatL_append (h : Nat) (a b : List (Elem h)) : flatL h (a ++ b) = flatL h a ++ flatL h b := by simp [flatL]
theorem flat_pg (h : Nat) (p : Pg h) : flat (h + 1) p = flatL h p.es := rfl
theorem flatL_zero (xs : List EntV) : flatL 0 xs = xs := by
  show xs.flatMap (fun x => [x]) = xs
  induction xs with
  | nil => rfl
  | cons x xs ih => simp

/-- The leaves, in order. -/
def lvs : (h : Nat) → Pg h → List (Pg 0)
  | 0, p => [p]
  | h + 1, p => (p.es : List (Pg h)).flatMap (lvs h)

theorem lvs_flat : ∀ (h : Nat) (p : Pg h), (lvs h p).flatMap (fun q => (q.es : List EntV)) = flat (h + 1) p
  | 0, p => by rw [flat_pg, flatL_zero]; simp [lvs]
  | h + 1, p => by
    rw [flat_pg]
    simp only [lvs, flatL, List.flatMap_assoc]
    exact congrArg (fun f => List.flatMap f p.es) (funext fun q => lvs_flat h q)

/-- The cells of an element in a row. -/
def ecs : (h : Nat) → Elem h → List Value
  | 0, (x : EntV) => [x.kv, x.vv]
  | _ + 1, p => [.pointer (some ⟨PgOf.pb p, 0, none⟩)]

def rowC (h : Nat) (es : List (Elem h)) : List Value := es.flatMap (ecs h)

theorem rowC_nil (h : Nat) : rowC h [] = [] := rfl
theorem rowC_cons (h : Nat) (e : Elem h) (es : List (Elem h)) : rowC h (e :: es) = ecs h e ++ rowC h es := by simp [rowC]
theorem rowC_append (h : Nat) (a b : List (Elem h)) : rowC h (a ++ b) = rowC h a ++ rowC h b := by simp [rowC]
theorem rowC_zero (xs : List EntV) : rowC 0 xs = xs.flatMap EntV.two := rfl
theorem rowC_pg (h : Nat) (ps : List (Pg h)) : rowC (h + 1) ps = ps.map fun p => .pointer (some ⟨p.pb, 0, none⟩) := by
  show List.flatMap (fun p : Pg h => [Value.pointer (some ⟨p.pb, 0, none⟩)]) ps = _
  induction ps with
  | nil => rfl
  | cons p ps ih => simp [ih]

/-- The value of an element's first key. -/
def fvE : (h : Nat) → Elem h → Value
  | 0, (x : EntV) => x.kv
  | _ + 1, p => PgOf.fv p

def fvL (h : Nat) : List (Elem h) → Value
  | [] => nilS
  | e :: _ => fvE h e

/-- The type of an element, and how many cells it has. -/
def ety : Nat → Nat
  | 0 => 46
  | _ + 1 => 53
def esz : Nat → Nat
  | 0 => 2
  | _ + 1 => 1

/-- A page's own cells. -/
def pcs : Nat → Value → Value → Array Value
  | 0, sv, fv => #[sv, nilS, fv]
  | _ + 1, sv, fv => #[nilS, sv, fv]

/-- How often a block is one of an element's own. -/
def occ : (h : Nat) → Elem h → Nat → Nat
  | 0, _, _ => 0
  | h + 1, (p : PgOf (Elem h)), i => (if p.pb = i then 1 else 0) + (if p.sv.ownBlock = some i then 1 else 0) + (p.es.map fun e => occ h e i).sum

def occL (h : Nat) (es : List (Elem h)) (i : Nat) : Nat := (es.map fun e => occ h e i).sum

theorem occL_nil (h i : Nat) : occL h [] i = 0 := rfl
theorem occL_cons (h : Nat) (e : Elem h) (es : List (Elem h)) (i : Nat) : occL h (e :: es) i = occ h e i + occL h es i := by simp [occL]
theorem occL_append (h : Nat) (a b : List (Elem h)) (i : Nat) : occL h (a ++ b) i = occL h a i + occL h b i := by simp [occL]
theorem occ_pg (h : Nat) (p : Pg h) (i : Nat) : occ (h + 1) p i = (if p.pb = i then 1 else 0) + (if p.sv.ownBlock = some i then 1 else 0) + occL h p.es i := rfl
theorem occL_zero (xs : List EntV) (i : Nat) : occL 0 xs i = 0 := by
  unfold occL
  induction xs with
  | nil => rfl
  | cons x xs ih => simp only [List.map_cons, List.sum_cons, ih]; rfl
theorem occ_mem {h : Nat} {e : Elem h} {es : List (Elem h)} (he : e ∈ es) (i : Nat) : occ h e i ≤ occL h es i := by
  induction es with
  | nil => cases he
  | cons f es ih =>
    rw [occL_cons]
    rcases List.mem_cons.1 he with rfl | he
    · omega
    · have := ih he; omega

/-- What is said of a page alone: its block's cells, its row. -/
structure At (h : Nat) (w : World) (pb : Nat) (sv fv : Value) (es : List (Elem h)) : Prop where
  blk : w.heap[pb]? = some (.cells (pcs h sv fv) 66 (0, 0))
  row : w.ownsRow 0 (ety h) (esz h) sv es.length (rowC h es)

/-- WHERE AN ELEMENT LIES: entries within blocks of K; pages, all in all. -/
def Lies : (h : Nat) → (Nat → Prop) → World → Elem h → Prop
  | 0, K, w, (x : EntV) => Says w x.kv x.k ∧ Says w x.vv x.v ∧ InS K x.kv ∧ InS K x.vv
  | h + 1, K, w, (p : PgOf (Elem h)) => At h w p.pb p.sv p.fv p.es ∧ p.fv = fvL h p.es ∧ ∀ e ∈ p.es, Lies h K w e

theorem lies_pg {h : Nat} {K : Nat → Prop} {w : World} {p : Pg h} : Lies (h + 1) K w p ↔ At h w p.pb p.sv p.fv p.es ∧ p.fv = fvL h p.es ∧ ∀ e ∈ p.es, Lies h K w e := Iff.rfl

theorem At.keep {h : Nat} {R : Nat → Prop} {w w' : World} {pb : Nat} {sv fv : Value} {es : List (Elem h)} (ha : At h w pb sv fv es) (hk : Spares R w w') (h1 : ¬ R pb) (h2 : ∀ g, sv.ownBlock = some g → ¬ R g) : At h w' pb sv fv es :=
  ⟨(hk.block _ (block_lt ha.blk) h1).trans ha.blk, hk.row ha.row h2⟩

theorem Lies.keep : ∀ {h : Nat} {K R : Nat → Prop} {w w' : World} {e : Elem h}, Lies h K w e → Spares R w w' → (∀ i, 0 < occ h e i → ¬ R i) → (∀ i, K i → ¬ R i) → Lies h K w' e
  | 0, K, R, w, w', e, hl, hk, _, hK => ⟨Says.keep hl.1 hl.2.2.1 hk hK, Says.keep hl.2.1 hl.2.2.2 hk hK, hl.2.2⟩
  | h + 1, K, R, w, w', (e : PgOf (Elem h)), hl, hk, ho, hK => by
    obtain ⟨h1, h2, h3⟩ := lies_pg.1 hl
    refine ⟨h1.keep hk (ho _ ?_) (fun g hg => ho _ ?_), h2, fun x hx => Lies.keep (h3 x hx) hk (fun i hi => ho i ?_) hK⟩
    · rw [occ_pg, if_pos rfl]; omega
    · rw [occ_pg, if_pos hg]; omega
    · rw [occ_pg]; have := occ_mem hx i; omega

theorem Lies.new {h : Nat} {K : Nat → Prop} {w w' : World} {e : Elem h} (hl : Lies h K w e) (hb : Below w.heap.size w w') : Lies h K w' e :=
  hl.keep (R := fun _ => False) (Spares.of_new hb) (fun _ _ => id) (fun _ _ => id)

theorem At.new {h : Nat} {w w' : World} {pb : Nat} {sv fv : Value} {es : List (Elem h)} (ha : At h w pb sv fv es) (hb : Below w.heap.size w w') : At h w' pb sv fv es :=
  ha.keep (R := fun _ => False) (Spares.of_new hb) id (fun _ _ => id)

theorem Lies.mono : ∀ {h : Nat} {K K' : Nat → Prop} {w : World} {e : Elem h}, Lies h K w e → (∀ i, K i → K' i) → Lies h K' w e
  | 0, K, K', w, e, hl, hK => ⟨hl.1, hl.2.1, hl.2.2.1.mono hK, hl.2.2.2.mono hK⟩
  | h + 1, K, K', w, e, hl, hK => ⟨hl.1, hl.2.1, fun x hx => Lies.mono (hl.2.2 x hx) hK⟩

theorem At.lt {h : Nat} {w : World} {pb : Nat} {sv fv : Value} {es : List (Elem h)} (ha : At h w pb sv fv es) : pb < w.heap.size ∧ ∀ g, sv.ownBlock = some g → g < w.heap.size :=
  ⟨block_lt ha.blk, fun g hg => (ha.row.lt g hg).2⟩

theorem sum_pos : ∀ {l : List Nat}, 0 < l.sum → ∃ n ∈ l, 0 < n
  | [], h => by simp at h
  | n :: l, h => by
    rcases Nat.eq_zero_or_pos n with h0 | h0
    · rw [List.sum_cons, h0, Nat.zero_add] at h
      obtain ⟨m, hm, hp⟩ := sum_pos h
      exact ⟨m, by simp [hm], hp⟩
    · exact ⟨n, by simp, h0⟩

theorem occL_pos {h : Nat} {es : List (Elem h)} {i : Nat} (hp : 0 < occL h es i) : ∃ e ∈ es, 0 < occ h e i := by
  obtain ⟨n, hn, h0⟩ := sum_pos hp
  obtain ⟨e, he, rfl⟩ := List.mem_map.1 hn
  exact ⟨e, he, h0⟩

theorem Lies.lt : ∀ {h : Nat} {K : Nat → Prop} {w : World} {e : Elem h}, Lies h K w e → ∀ i, 0 < occ h e i → i < w.heap.size
  | 0, K, w, e, hl, i, hi => by simp [occ] at hi
  | h + 1, K, w, (e : PgOf (Elem h)), hl, i, hi => by
    obtain ⟨h1, h2, h3⟩ := lies_pg.1 hl
    rw [occ_pg] at hi
    by_cases c1 : e.pb = i
    · rw [← c1]; exact h1.lt.1
    · by_cases c2 : e.sv.ownBlock = some i
      · exact h1.lt.2 i c2
      · rw [if_neg c1, if_neg c2] at hi
        obtain ⟨x, hx, hp⟩ := occL_pos (h := h) (es := e.es) (i := i) (by omega)
        exact Lies.lt (h3 x hx) i hp

theorem liesL_lt {h : Nat} {K : Nat → Prop} {w : World} {es : List (Elem h)} (hl : ∀ e ∈ es, Lies h K w e) (i : Nat) (hi : 0 < occL h es i) : i < w.heap.size := by
  obtain ⟨e, he, hp⟩ := occL_pos hi
  exact (hl e he).lt i hp

theorem Lies.says : ∀ {h : Nat} {K : Nat → Prop} {w : World} {e : Elem h}, Lies h K w e → ∀ x ∈ flat h e, Says w x.kv x.k ∧ Says w x.vv x.v ∧ InS K x.kv ∧ InS K x.vv
  | 0, K, w, e, hl, x, hx => by
    have : x = e := List.mem_singleton.1 hx
    subst this; exact hl
  | h + 1, K, w, e, hl, x, hx => by
    obtain ⟨y, hy, hx⟩ := List.mem_flatMap.1 hx
    exact Lies.says (hl.2.2 y hy) x hx

/-- Pages below one another are neither too full nor too empty. -/
def OkE : (h : Nat) → Elem h → Prop
  | 0, _ => True
  | h + 1, (p : PgOf (Elem h)) => 2 ≤ p.es.length ∧ p.es.length ≤ 4 ∧ ∀ e ∈ p.es, OkE h e

theorem okE_pg {h : Nat} {p : Pg h} : OkE (h + 1) p ↔ 2 ≤ p.es.length ∧ p.es.length ≤ 4 ∧ ∀ e ∈ p.es, OkE h e := Iff.rfl

/-- The root. -/
def OkR : (h : Nat) → Pg h → Prop
  | 0, p => p.es.length ≤ 4
  | h + 1, p => OkE (h + 2) p

theorem okR_all {h : Nat} {p : Pg h} (hp : OkR h p) : p.es.length ≤ 4 ∧ ∀ e ∈ p.es, OkE h e := by
  cases h with
  | zero => exact ⟨hp, fun _ _ => trivial⟩
  | succ h => exact ⟨hp.2.1, hp.2.2⟩

theorem flat_ne : ∀ {h : Nat} {e : Elem h}, OkE h e → flat h e ≠ []
  | 0, e, _ => by simp [flat]
  | h + 1, (e : PgOf (Elem h)), ho => by
    obtain ⟨h1, _, h3⟩ := okE_pg.1 ho
    rw [flat_pg]
    rcases hes : e.es with _ | ⟨x, xs⟩
    · rw [hes] at h1; simp at h1
    · rw [flatL_cons]
      have := flat_ne (h3 x (by simp [hes]))
      simp [this]

/-- An element's first key. -/
def fk (h : Nat) (e : Elem h) : List UInt8 := ((flat h e).head?.map (·.k)).getD []

theorem fk_first {h : Nat} {p : Pg h} {e : Elem h} {es : List (Elem h)} (hes : p.es = e :: es) (he : OkE h e) : fk (h + 1) p = fk h e := by
  unfold fk
  rw [flat_pg, hes, flatL_cons]
  have := flat_ne he
  rcases hf : flat h e with _ | ⟨x, xs⟩
  · exact absurd hf this
  · rfl

theorem fv_says : ∀ {h : Nat} {K : Nat → Prop} {w : World} {e : Elem h}, Lies h K w e → OkE h e → Says w (fvE h e) (fk h e)
  | 0, K, w, e, hl, _ => hl.1
  | h + 1, K, w, (e : PgOf (Elem h)), hl, ho => by
    obtain ⟨h1, _, h3⟩ := okE_pg.1 ho
    rcases hes : e.es with _ | ⟨x, xs⟩
    · rw [hes] at h1; simp at h1
    · rw [fk_first hes (h3 x (by simp [hes]))]
      show Says w e.fv _
      rw [hl.2.1, hes]
      exact fv_says (hl.2.2 x (by simp [hes])) (h3 x (by simp [hes]))
end Go.Proofs.Ytjfipejfejmlaaa
