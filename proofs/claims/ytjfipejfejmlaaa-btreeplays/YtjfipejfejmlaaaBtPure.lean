/- A row of entries by rising keys: put, look, drop, range; plain facts. -/
import Derived.Test.YtjfipejfejmlaaaTri
namespace Go.Proofs.Ytjfipejfejmlaaa
open Go
set_option linter.unusedVariables false
set_option linter.unusedSimpArgs false
set_option maxRecDepth 20000

/-- Where a key stands: the first place whose key is not below it. -/
def atK (L : List Ent) (key : List UInt8) : Nat := (L.takeWhile fun e => Op.bytesLess e.1 key).length

theorem atK_le (L : List Ent) (key : List UInt8) : atK L key ≤ L.length := by
  unfold atK
  exact (List.takeWhile_prefix _).length_le

theorem atK_nil (key : List UInt8) : atK [] key = 0 := rfl

theorem atK_cons (e : Ent) (L : List Ent) (key : List UInt8) : atK (e :: L) key = if Op.bytesLess e.1 key = true then atK L key + 1 else 0 := by
  unfold atK
  rw [List.takeWhile_cons]
  split <;> rfl

theorem atK_lt : ∀ (L : List Ent) (key : List UInt8) (j : Nat) (e : Ent), L[j]? = some e → j < atK L key → Op.bytesLess e.1 key = true
  | [], key, j, e, h, _ => by simp at h
  | f :: L, key, j, e, h, hj => by
    rw [atK_cons] at hj
    split at hj
    · rename_i hf
      cases j with
      | zero => simp at h; subst h; exact hf
      | succ j => exact atK_lt L key j e (by simpa using h) (by omega)
    · omega

theorem atK_at : ∀ (L : List Ent) (key : List UInt8) (e : Ent), L[atK L key]? = some e → Op.bytesLess e.1 key = false
  | [], key, e, h => by simp at h
  | f :: L, key, e, h => by
    rw [atK_cons] at h
    split at h
    · exact atK_at L key e (by simpa using h)
    · rename_i hf
      simp at h
      subst h
      simpa using hf

theorem less_ne {a b : List UInt8} (h : Op.bytesLess a b = true) : a ≠ b := fun e => by rw [e, less_irrefl] at h; cases h

/-- Is the entry of a key there? -/
def hitK (L : List Ent) (key : List UInt8) : Bool := (L[atK L key]?.map (·.1)) == some key

/-- The value of a key. -/
def lookL (L : List Ent) (key : List UInt8) : Option (List UInt8) := if hitK L key then L[atK L key]?.map (·.2) else none

/-- With an entry in its place. -/
def putL (L : List Ent) (e : Ent) : List Ent := L.take (atK L e.1) ++ e :: L.drop (if hitK L e.1 then atK L e.1 + 1 else atK L e.1)

/-- Without the entry of a key. -/
def delL (L : List Ent) (key : List UInt8) : List Ent := L.take (atK L key) ++ L.drop (if hitK L key then atK L key + 1 else atK L key)

theorem less_of_not {a b : List UInt8} (h : Op.bytesLess a b = false) (hne : a ≠ b) : Op.bytesLess b a = true := by
  have := less_total a b hne
  rw [h] at this
  simpa using this.symm

/-- less_of_le_of_less: a key not above one that is below a third. -/
theorem le_less {a b c : List UInt8} (h : Op.bytesLess b a = false) (k : Op.bytesLess b c = true) : Op.bytesLess a c = true := by
  by_cases e : b = a
  · subst e; exact k
  · exact less_trans _ _ _ (less_of_not h e) k

theorem less_le {a b c : List UInt8} (h : Op.bytesLess a b = true) (k : Op.bytesLess c b = false) : Op.bytesLess a c = true := by
  by_cases e : c = b
  · subst e; exact h
  · exact less_trans _ _ _ h (less_of_not k e)

theorem le_le {a b c : List UInt8} (h : Op.bytesLess b a = false) (k : Op.bytesLess c b = false) : Op.bytesLess c a = false := by
  cases hc : Op.bytesLess c a with
  | false => rfl
  | true => have := less_le hc h; rw [k] at this; cases this

theorem hitK_nil (key : List UInt8) : hitK [] key = false := rfl

theorem hitK_cons (e : Ent) (L : List Ent) (key : List UInt8) : hitK (e :: L) key = if Op.bytesLess e.1 key = true then hitK L key else e.1 == key := by
  unfold hitK
  rw [atK_cons]
  split <;> simp

theorem putL_cons (e f : Ent) (L : List Ent) : putL (f :: L) e = if Op.bytesLess f.1 e.1 = true then f :: putL L e else if f.1 = e.1 then e :: L else e :: f :: L := by
  unfold putL
  rw [hitK_cons, atK_cons]
  by_cases h : Op.bytesLess f.1 e.1 = true
  · rw [if_pos h, if_pos h, if_pos h]
    split <;> rfl
  · rw [if_neg h, if_neg h, if_neg h]
    by_cases he : f.1 = e.1
    · simp [he]
    · simp [he]

theorem delL_cons (f : Ent) (L : List Ent) (key : List UInt8) : delL (f :: L) key = if Op.bytesLess f.1 key = true then f :: delL L key else if f.1 = key then L else f :: L := by
  unfold delL
  rw [hitK_cons, atK_cons]
  by_cases h : Op.bytesLess f.1 key = true
  · rw [if_pos h, if_pos h, if_pos h]
    split <;> rfl
  · rw [if_neg h, if_neg h, if_neg h]
    by_cases he : f.1 = key
    · simp [he]
    · simp [he]

theorem lookL_cons (f : Ent) (L : List Ent) (key : List UInt8) : lookL (f :: L) key = if Op.bytesLess f.1 key = true then lookL L key else if f.1 = key then some f.2 else none := by
  unfold lookL
  rw [hitK_cons, atK_cons]
  by_cases h : Op.bytesLess f.1 key = true
  · rw [if_pos h, if_pos h, if_pos h]
    simp
  · rw [if_neg h, if_neg h, if_neg h]
    by_cases he : f.1 = key
    · simp [he]
    · simp [he]

theorem lookL_isSome (L : List Ent) (key : List UInt8) : (lookL L key).isSome = hitK L key := by
  unfold lookL
  split
  · rename_i h
    unfold hitK at h ⊢
    cases hx : L[atK L key]? with
    | none => rw [hx] at h; simp at h
    | some e => rw [hx] at h; simpa using h.symm
  · rename_i h
    simpa using h

/-- WHAT THE ROW IS OF: put, look, drop, told by the entries alone. -/
theorem putL_mem : ∀ (L : List Ent), Tri.Rises L → ∀ (e f : Ent), f ∈ putL L e ↔ f = e ∨ (f ∈ L ∧ f.1 ≠ e.1)
  | [], _, e, f => by simp [putL, atK_nil, hitK_nil]
  | g :: L, hr, e, f => by
    obtain ⟨h1, h2⟩ := List.pairwise_cons.1 hr
    rw [putL_cons]
    by_cases h : Op.bytesLess g.1 e.1 = true
    · rw [if_pos h, List.mem_cons, putL_mem L h2 e f, List.mem_cons]
      constructor
      · rintro (rfl | rfl | ⟨h3, h4⟩)
        · exact .inr ⟨.inl rfl, less_ne h⟩
        · exact .inl rfl
        · exact .inr ⟨.inr h3, h4⟩
      · rintro (rfl | ⟨rfl | h3, h4⟩)
        · exact .inr (.inl rfl)
        · exact .inl rfl
        · exact .inr (.inr ⟨h3, h4⟩)
    · rw [if_neg h]
      by_cases he : g.1 = e.1
      · rw [if_pos he, List.mem_cons, List.mem_cons]
        constructor
        · rintro (rfl | h3)
          · exact .inl rfl
          · exact .inr ⟨.inr h3, fun e' => less_ne (h1 f h3) (he.trans e'.symm)⟩
        · rintro (rfl | ⟨rfl | h3, h4⟩)
          · exact .inl rfl
          · exact absurd he h4
          · exact .inr h3
      · rw [if_neg he]
        have heg := less_of_not (by simpa using h) he
        rw [List.mem_cons, List.mem_cons]
        constructor
        · rintro (rfl | rfl | h3)
          · exact .inl rfl
          · exact .inr ⟨.inl rfl, he⟩
          · exact .inr ⟨.inr h3, fun e' => less_ne (less_trans _ _ _ heg (h1 f h3)) e'.symm⟩
        · rintro (rfl | ⟨rfl | h3, h4⟩)
          · exact .inl rfl
          · exact .inr (.inl rfl)
          · exact .inr (.inr h3)

theorem putL_rises : ∀ (L : List Ent), Tri.Rises L → ∀ (e : Ent), Tri.Rises (putL L e)
  | [], _, e => by simp [putL, atK_nil, hitK_nil, Tri.Rises]
  | g :: L, hr, e => by
    obtain ⟨h1, h2⟩ := List.pairwise_cons.1 hr
    rw [putL_cons]
    by_cases h : Op.bytesLess g.1 e.1 = true
    · rw [if_pos h]
      refine List.pairwise_cons.2 ⟨fun f hf => ?_, putL_rises L h2 e⟩
      rcases (putL_mem L h2 e f).1 hf with rfl | ⟨h3, _⟩
      · exact h
      · exact h1 f h3
    · rw [if_neg h]
      by_cases he : g.1 = e.1
      · rw [if_pos he]
        exact List.pairwise_cons.2 ⟨fun f hf => by rw [← he]; exact h1 f hf, h2⟩
      · rw [if_neg he]
        have heg := less_of_not (by simpa using h) he
        refine List.pairwise_cons.2 ⟨fun f hf => ?_, hr⟩
        rcases List.mem_cons.1 hf with rfl | hf
        · exact heg
        · exact less_trans _ _ _ heg (h1 f hf)

theorem delL_mem : ∀ (L : List Ent), Tri.Rises L → ∀ (key : List UInt8) (f : Ent), f ∈ delL L key ↔ f ∈ L ∧ f.1 ≠ key
  | [], _, key, f => by simp [delL, atK_nil, hitK_nil]
  | g :: L, hr, key, f => by
    obtain ⟨h1, h2⟩ := List.pairwise_cons.1 hr
    rw [delL_cons]
    by_cases h : Op.bytesLess g.1 key = true
    · rw [if_pos h, List.mem_cons, delL_mem L h2 key f, List.mem_cons]
      constructor
      · rintro (rfl | ⟨h3, h4⟩)
        · exact ⟨.inl rfl, less_ne h⟩
        · exact ⟨.inr h3, h4⟩
      · rintro ⟨rfl | h3, h4⟩
        · exact .inl rfl
        · exact .inr ⟨h3, h4⟩
    · rw [if_neg h]
      by_cases he : g.1 = key
      · rw [if_pos he, List.mem_cons]
        constructor
        · exact fun h3 => ⟨.inr h3, fun e' => less_ne (h1 f h3) (he.trans e'.symm)⟩
        · rintro ⟨rfl | h3, h4⟩
          · exact absurd he h4
          · exact h3
      · rw [if_neg he]
        have heg := less_of_not (by simpa using h) he
        rw [List.mem_cons]
        constructor
        · rintro (rfl | h3)
          · exact ⟨.inl rfl, he⟩
          · exact ⟨.inr h3, fun e' => less_ne (less_trans _ _ _ heg (h1 f h3)) e'.symm⟩
        · exact fun h3 => h3.1

theorem delL_sub (L : List Ent) (key : List UInt8) : (delL L key).Sublist L := by
  unfold delL
  split
  · calc (L.take (atK L key) ++ L.drop (atK L key + 1)).Sublist (L.take (atK L key) ++ L.drop (atK L key)) := (List.Sublist.refl _).append (by rw [← List.drop_drop]; exact List.drop_sublist _ _)
      _ = L := List.take_append_drop _ _
  · rw [List.take_append_drop]
    exact List.Sublist.refl _

theorem delL_rises (L : List Ent) (hr : Tri.Rises L) (key : List UInt8) : Tri.Rises (delL L key) := hr.sublist (delL_sub L key)

theorem delL_few (L : List Ent) (key : List UInt8) : (delL L key).length ≤ L.length := (delL_sub L key).length_le

theorem lookL_some : ∀ (L : List Ent), Tri.Rises L → ∀ (key v : List UInt8), lookL L key = some v ↔ (key, v) ∈ L
  | [], _, key, v => by simp [lookL, hitK_nil]
  | g :: L, hr, key, v => by
    obtain ⟨h1, h2⟩ := List.pairwise_cons.1 hr
    rw [lookL_cons]
    by_cases h : Op.bytesLess g.1 key = true
    · rw [if_pos h, lookL_some L h2 key v, List.mem_cons]
      exact ⟨.inr, fun h3 => h3.elim (fun e => by subst e; exact absurd rfl (less_ne h)) id⟩
    · rw [if_neg h]
      by_cases he : g.1 = key
      · rw [if_pos he, List.mem_cons]
        constructor
        · intro e; cases e; exact .inl (by rw [← he])
        · rintro (e | h3)
          · subst e; rfl
          · exact absurd he (less_ne (h1 _ h3))
      · rw [if_neg he, List.mem_cons]
        have heg := less_of_not (by simpa using h) he
        refine ⟨fun e => (by cases e), fun h3 => ?_⟩
        rcases h3 with e | h3
        · subst e; exact absurd rfl he
        · exact absurd (less_asymm _ _ (h1 _ h3)) (by simp [heg])

theorem lookL_ext {L M : List Ent} (hL : Tri.Rises L) (hM : Tri.Rises M) {key : List UInt8} (h : ∀ v, (key, v) ∈ L ↔ (key, v) ∈ M) : lookL L key = lookL M key := by
  cases hl : lookL L key with
  | some v => exact ((lookL_some M hM key v).2 ((h v).1 ((lookL_some L hL key v).1 hl))).symm
  | none =>
    cases hm : lookL M key with
    | none => rfl
    | some v => have := (lookL_some L hL key v).2 ((h v).2 ((lookL_some M hM key v).1 hm)); rw [hl] at this; cases this

theorem look_put (L : List Ent) (hr : Tri.Rises L) (e : Ent) : lookL (putL L e) e.1 = some e.2 :=
  (lookL_some _ (putL_rises L hr e) _ _).2 ((putL_mem L hr e _).2 (.inl rfl))

theorem look_put_other (L : List Ent) (hr : Tri.Rises L) (e : Ent) (key : List UInt8) (hk : key ≠ e.1) : lookL (putL L e) key = lookL L key :=
  lookL_ext (putL_rises L hr e) hr fun v => by
    rw [putL_mem L hr]
    exact ⟨fun h => h.elim (fun e' => absurd (by rw [← e']) hk) (·.1), fun h => .inr ⟨h, hk⟩⟩

theorem look_del (L : List Ent) (hr : Tri.Rises L) (key : List UInt8) : lookL (delL L key) key = none := by
  cases h : lookL (delL L key) key with
  | none => rfl
  | some v => exact absurd rfl ((delL_mem L hr key _).1 ((lookL_some _ (delL_rises L hr key) _ _).1 h)).2

theorem look_del_other (L : List Ent) (hr : Tri.Rises L) (k key : List UInt8) (hk : key ≠ k) : lookL (delL L k) key = lookL L key :=
  lookL_ext (delL_rises L hr k) hr fun v => by
    rw [delL_mem L hr]
    exact ⟨fun h => h.1, fun h => ⟨h, hk⟩⟩

theorem putL_length (L : List Ent) (e : Ent) : (putL L e).length = L.length + if hitK L e.1 then 0 else 1 := by
  have h := atK_le L e.1
  unfold putL
  rw [List.length_append, List.length_cons, List.length_take, List.length_drop, Nat.min_eq_left h]
  split
  · rename_i hh
    have : atK L e.1 < L.length := by
      unfold hitK at hh
      rcases Nat.lt_or_ge (atK L e.1) L.length with h | h
      · exact h
      · rw [List.getElem?_eq_none h] at hh; simp at hh
    omega
  · omega

theorem putL_few (L : List Ent) (e : Ent) : (putL L e).length ≤ L.length + 1 := by
  rw [putL_length]
  split <;> omega

/-- Does a key lie in a span? -/
def inSp (a b : List UInt8) (e : Bool) (key : List UInt8) : Bool := !Op.bytesLess key a && (!e || Op.bytesLess key b)

/-- The entries in a span. -/
def rangeL (L : List Ent) (a b : List UInt8) (e : Bool) : List Ent := L.filter fun x => inSp a b e x.1

theorem rangeL_all (L : List Ent) : rangeL L [] [] false = L := by
  unfold rangeL
  rw [List.filter_eq_self]
  intro x _
  have : ∀ k : List UInt8, Op.bytesLess k [] = false := fun k => by cases k <;> rfl
  simp [inSp, this]

theorem rangeL_join : ∀ (L : List Ent), Tri.Rises L → ∀ (a m b : List UInt8), Op.bytesLess m a = false → Op.bytesLess b m = false → rangeL L a m true ++ rangeL L m b true = rangeL L a b true
  | [], _, a, m, b, _, _ => rfl
  | x :: L, hr, a, m, b, h1, h2 => by
    obtain ⟨r1, r2⟩ := List.pairwise_cons.1 hr
    have ih := rangeL_join L r2 a m b h1 h2
    unfold rangeL at ih ⊢
    by_cases hm : Op.bytesLess x.1 m = true
    · have i2 : inSp m b true x.1 = false := by simp [inSp, hm]
      have hb : Op.bytesLess x.1 b = true := less_le hm h2
      have i13 : inSp a m true x.1 = inSp a b true x.1 := by simp [inSp, hm, hb]
      rw [List.filter_cons, List.filter_cons, List.filter_cons, i2, i13]
      simp only [Bool.false_eq_true, if_false]
      split
      · rw [List.cons_append, ih]
      · exact ih
    · have hm' : Op.bytesLess x.1 m = false := by simpa using hm
      have i1 : ∀ y ∈ x :: L, inSp a m true y.1 = false := fun y hy => by
        have : Op.bytesLess y.1 m = false := by
          rcases List.mem_cons.1 hy with rfl | hy
          · exact hm'
          · cases hc : Op.bytesLess y.1 m with
            | false => rfl
            | true => have := less_trans _ _ _ (r1 y hy) hc; rw [hm'] at this; cases this
        simp [inSp, this]
      have e1 : (x :: L).filter (fun y => inSp a m true y.1) = [] := List.filter_eq_nil_iff.2 fun y hy => by simp [i1 y hy]
      rw [e1, List.nil_append]
      refine List.filter_congr fun y hy => ?_
      have hy' := i1 y hy
      have hym : Op.bytesLess y.1 m = false := by
        rcases List.mem_cons.1 hy with rfl | hy
        · exact hm'
        · cases hc : Op.bytesLess y.1 m with
          | false => rfl
          | true => have := less_trans _ _ _ (r1 y hy) hc; rw [hm'] at this; cases this
      have hya : Op.bytesLess y.1 a = false := le_le h1 hym
      simp [inSp, hym, hya]

theorem rangeL_none (L : List Ent) (a b : List UInt8) (h : Op.bytesLess a b = false) : rangeL L a b true = [] := by
  unfold rangeL
  refine List.filter_eq_nil_iff.2 fun y _ => ?_
  simp only [inSp, Bool.not_true, Bool.false_or, Bool.and_eq_true, Bool.not_eq_true', not_and, Bool.not_eq_true]
  intro h1
  cases hc : Op.bytesLess y.1 b with
  | false => rfl
  | true => have := le_less h1 hc; rw [h] at this; cases this

/-- What is not below a key and below the key with one more byte, 0, is the key. -/
theorem less_next : ∀ (k key : List UInt8), Op.bytesLess k key = false → Op.bytesLess k (key ++ [0]) = true → k = key
  | [], [], _, _ => rfl
  | [], _ :: _, h, _ => by simp [Op.bytesLess] at h
  | x :: k, [], _, h => by
    have h0 : ¬ x < 0 := by simp
    simp only [List.nil_append, Op.bytesLess] at h
    revert h
    by_cases h1 : x = 0
    · subst h1; cases k <;> simp [Op.bytesLess]
    · have : (x == 0) = false := by simpa using h1
      simp [h0, this]
  | x :: k, y :: key, h1, h2 => by
    simp only [List.cons_append, Op.bytesLess] at h1 h2
    by_cases hxy : x < y
    · simp [hxy] at h1
    · by_cases he : x = y
      · subst he
        simp only [UInt8.lt_irrefl, if_false, decide_false, Bool.false_or, beq_self_eq_true, Bool.true_and, if_true] at h1 h2
        rw [less_next k key (by simpa using h1) (by simpa using h2)]
      · have : (x == y) = false := by simpa using he
        simp [hxy, this] at h2

theorem rangeL_gone (L : List Ent) (hr : Tri.Rises L) (key : List UInt8) : rangeL (delL L key) key (key ++ [0]) true = [] := by
  unfold rangeL
  refine List.filter_eq_nil_iff.2 fun y hy => ?_
  simp only [inSp, Bool.not_true, Bool.false_or, Bool.and_eq_true, Bool.not_eq_true', not_and, Bool.not_eq_true]
  intro h1
  cases hc : Op.bytesLess y.1 (key ++ [0]) with
  | false => rfl
  | true => exact absurd (less_next _ _ h1 hc) ((delL_mem L hr key y).1 hy).2

theorem rangeL_rises (L : List Ent) (hr : Tri.Rises L) (a b : List UInt8) (e : Bool) : Tri.Rises (rangeL L a b e) := hr.sublist List.filter_sublist
end Go.Proofs.Ytjfipejfejmlaaa
