/- A tree that is being mended: one page of it, on a walk, has one too many or one too few. -/
import Derived.Test.YtjfipejfejmlaaaBtTells
import Derived.Test.YtjfipejfejmlaaaBtMend
namespace Go.Proofs.Ytjfipejfejmlaaa
open Go.RowKit Go.Shelf
set_option linter.unusedVariables false
set_option linter.unusedSimpArgs false
set_option maxRecDepth 20000

def Ctx.root : {h : Nat} → Ctx h → Nat → Nat
  | _, .top, pb => pb
  | _, .down qb _ _ _ _ up, _ => up.root qb

def totO {h : Nat} (c : Ctx h) (pb : Nat) (sv : Value) (es : List (Elem h)) (i : Nat) : Nat := c.occ i + ((if pb = i then 1 else 0) + (if sv.ownBlock = some i then 1 else 0) + occL h es i)

structure Dirt (K : Nat → Prop) (w : World) (tb : Nat) (cnt : Int) {h : Nat} (c : Ctx h) (pb : Nat) (sv fv : Value) (es : List (Elem h)) : Prop where
  tree : w.heap[tb]? = some (.cells #[ptr (c.root pb), .int .i64 cnt] 56 (0, 0))
  at' : At h w pb sv fv es
  lies : ∀ e ∈ es, Lies h K w e
  ctx : c.Lies K w pb
  ok : c.Ok
  oke : ∀ e ∈ es, OkE h e
  most : es.length ≤ 5
  least : c.isTop = false ∨ 0 < h → 1 ≤ es.length
  one : ∀ i, totO c pb sv es i + (if tb = i then 1 else 0) ≤ 1
  kfree : ∀ i, K i → totO c pb sv es i = 0 ∧ tb ≠ i ∧ i < w.heap.size

/-- What is told of a change of a tree's own blocks. -/
def Kept (tot0 : Nat → Nat) (w0 : World) (tot : Nat → Nat) : Prop := ∀ i, i < w0.heap.size → tot i ≤ tot0 i

theorem Lies.cells : ∀ {h : Nat} {K : Nat → Prop} {w : World} {e : Elem h}, Lies h K w e → ∀ i, 0 < occ h e i → ∃ cs t fr, w.heap[i]? = some (.cells cs t fr)
  | 0, K, w, e, hl, i, hi => by simp [occ] at hi
  | h + 1, K, w, (e : PgOf (Elem h)), hl, i, hi => by
    obtain ⟨h1, h2, h3⟩ := lies_pg.1 hl
    rw [occ_pg] at hi
    by_cases c1 : e.pb = i
    · rw [← c1]; exact ⟨_, _, _, h1.blk⟩
    · by_cases c2 : e.sv.ownBlock = some i
      · exact row_cells h1.row c2
      · rw [if_neg c1, if_neg c2] at hi
        obtain ⟨x, hx, hp⟩ := occL_pos (h := h) (es := e.es) (i := i) (by omega)
        exact Lies.cells (h3 x hx) i hp

theorem liesL_cells {h : Nat} {K : Nat → Prop} {w : World} {es : List (Elem h)} (hl : ∀ e ∈ es, Lies h K w e) (i : Nat) (hi : 0 < occL h es i) : ∃ cs t fr, w.heap[i]? = some (.cells cs t fr) := by
  obtain ⟨e, he, hp⟩ := occL_pos hi
  exact (hl e he).cells i hp

theorem Ctx.Lies.cells {K : Nat → Prop} {w : World} : ∀ {h : Nat} {c : Ctx h} {hb : Nat}, c.Lies K w hb → ∀ i, 0 < c.occ i → ∃ cs t fr, w.heap[i]? = some (.cells cs t fr)
  | _, .top, hb, _, i, hi => by simp [Ctx.occ] at hi
  | h, .down pb sv fv pre post up, hb, ⟨h1, h2, h3, h4, h5⟩, i, hi => by
    by_cases c1 : pb = i
    · rw [← c1]; exact ⟨_, _, _, h1⟩
    · by_cases c2 : sv.ownBlock = some i
      · exact row_cells h2 c2
      · simp only [Ctx.occ, if_neg c1, if_neg c2] at hi
        by_cases c3 : 0 < occL (h + 1) pre i
        · exact liesL_cells h3 i c3
        · by_cases c4 : 0 < occL (h + 1) post i
          · exact liesL_cells h4 i c4
          · exact Ctx.Lies.cells h5 i (by omega)

section
variable {K : Nat → Prop} {w w' : World} {tb : Nat} {cnt : Int} {h : Nat} {c : Ctx h} {pb : Nat} {sv fv : Value} {es : List (Elem h)}

theorem Dirt.cells (hd : Dirt K w tb cnt c pb sv fv es) (i : Nat) (hi : 0 < totO c pb sv es i) : ∃ cs t fr, w.heap[i]? = some (.cells cs t fr) := by
  unfold totO at hi
  by_cases c1 : 0 < c.occ i
  · exact hd.ctx.cells i c1
  · by_cases c2 : pb = i
    · rw [← c2]; exact ⟨_, _, _, hd.at'.blk⟩
    · by_cases c3 : sv.ownBlock = some i
      · exact row_cells hd.at'.row c3
      · rw [if_neg c2, if_neg c3] at hi
        exact liesL_cells hd.lies i (by omega)

theorem Dirt.keep {R : Nat → Prop} (hd : Dirt K w tb cnt c pb sv fv es) (hk : Spares R w w') (h1 : ∀ i, 0 < totO c pb sv es i → ¬ R i) (h2 : ∀ i, K i → ¬ R i) (h3 : ¬ R tb) : Dirt K w' tb cnt c pb sv fv es := by
  have hp : ∀ i, (0 < c.occ i ∨ pb = i ∨ sv.ownBlock = some i ∨ 0 < occL h es i) → 0 < totO c pb sv es i := fun i hi => by
    unfold totO
    rcases hi with hi | hi | hi | hi
    · omega
    · rw [if_pos hi]; omega
    · rw [if_pos hi]; omega
    · omega
  exact ⟨(hk.block _ (block_lt hd.tree) h3).trans hd.tree, hd.at'.keep hk (h1 _ (hp _ (.inr (.inl rfl)))) (fun g hg => h1 _ (hp _ (.inr (.inr (.inl hg))))),
    fun e he => (hd.lies e he).keep hk (fun i hi => h1 _ (hp _ (.inr (.inr (.inr (by have := occ_mem he i; omega)))))) h2, Ctx.Lies.keep hk h2 hd.ctx (fun i hi => h1 _ (hp _ (.inl hi))), hd.ok, hd.oke, hd.most, hd.least, hd.one, fun i hi => ⟨(hd.kfree i hi).1, (hd.kfree i hi).2.1, Nat.lt_of_lt_of_le (hd.kfree i hi).2.2 hk.size⟩⟩

theorem Dirt.new (hd : Dirt K w tb cnt c pb sv fv es) (hb : Below w.heap.size w w') : Dirt K w' tb cnt c pb sv fv es :=
  hd.keep (R := fun _ => False) (Spares.of_new hb) (fun _ _ => id) (fun _ _ => id) id

theorem Dirt.lt (hd : Dirt K w tb cnt c pb sv fv es) (i : Nat) (hi : 0 < totO c pb sv es i) : i < w.heap.size := by
  obtain ⟨cs, t, fr, hc⟩ := hd.cells i hi
  exact block_lt hc

/-- Of what a loop keeps for itself it hangs on nothing. -/
theorem Dirt.own {B : Nat} (hd : Dirt K w tb cnt c pb sv fv es) (hKB : ∀ i, K i → i < B) {row : Option Nat} (hg : w.grownBy w' row) (hr : ∀ r, row = some r → B ≤ r ∧ ∃ o : Obj, w.heap[r]? = some o ∧ o.isCells = false) : Dirt K w' tb cnt c pb sv fv es := by
  have hno : ∀ i, (∃ cs t fr, w.heap[i]? = some (.cells cs t fr)) → ¬ row = some i := fun i ⟨cs, t, fr, hc⟩ e => by
    obtain ⟨_, o, ho, hcs⟩ := hr i e
    rw [hc] at ho
    cases ho
    cases hcs
  exact hd.keep (R := fun i => row = some i) (Spares.of_grown hg (fun k e => e)) (fun i hi => hno i (hd.cells i hi)) (fun i hi e => by have := (hr i e).1; have := hKB i hi; omega) (hno tb ⟨_, _, _, hd.tree⟩)
end

theorem shareL_ok {α : Type} {L : List α} (h2 : 2 ≤ L.length) (h8 : L.length ≤ 8) : ∀ l ∈ shareL L, 2 ≤ l.length ∧ l.length ≤ 4 ∧ ∀ x ∈ l, x ∈ L := fun l hl => by
  unfold shareL at hl
  split at hl
  · rename_i h4
    rw [List.mem_singleton.1 hl]
    exact ⟨h2, h4, fun _ => id⟩
  · rename_i h4
    simp only [List.mem_cons, List.not_mem_nil, or_false] at hl
    rcases hl with rfl | rfl
    · exact ⟨by rw [List.length_take]; omega, by rw [List.length_take]; omega, fun x hx => List.mem_of_mem_take hx⟩
    · exact ⟨by rw [List.length_drop]; omega, by rw [List.length_drop]; omega, fun x hx => List.mem_of_mem_drop hx⟩

theorem flat_all {h : Nat} : ∀ ps : List (Pg h), flatL (h + 1) ps = flatL h (allEs ps)
  | [] => rfl
  | p :: ps => by rw [flatL_cons, allEs_cons, flatL_append, flat_all ps]; rfl

theorem occ_all {h : Nat} (i : Nat) : ∀ ps : List (Pg h), occL h (allEs ps) i ≤ occL (h + 1) ps i
  | [] => Nat.zero_le _
  | p :: ps => by
    rw [occL_cons, allEs_cons, occL_append, occ_pg]
    have := occ_all i ps
    omega

theorem allEs_flatten {h : Nat} (ps : List (Pg h)) : allEs ps = (ps.map (·.es)).flatten := by
  unfold allEs
  rw [List.flatMap_def]

/-- One page behind another is mended. -/
theorem dirt_step {K : Nat → Prop} {w w' : World} {tb : Nat} {cnt : Int} {h : Nat} {qb : Nat} {qsv qfv : Value} {pre post : List (Pg h)} {up : Ctx (h + 1)} {pb : Nat} {sv fv : Value} {es : List (Elem h)}
    (hd : Dirt K w tb cnt (.down qb qsv qfv pre post up) pb sv fv es)
    (hm : Mended h K w w' qb qfv (pre ++ (⟨pb, sv, fv, es⟩ : Pg h) :: post) (fromM es.length pre.length) (manyM es.length)) :
    ∃ sv' kids', Dirt K w' tb cnt up qb sv' qfv kids' ∧ flatL (h + 1) kids' = flatL (h + 1) pre ++ flatL h es ++ flatL (h + 1) post ∧ Spares (fun i => i = qb) w w' ∧ Kept (totO (.down qb qsv qfv pre post up) pb sv es) w (totO up qb sv' kids') := by
  obtain ⟨sv', qs, hblk, hrow, hqs, hql, hlow, hhigh, hsp⟩ := hm.out
  obtain ⟨p, hp⟩ : ∃ p : Pg h, p = ⟨pb, sv, fv, es⟩ := ⟨_, rfl⟩
  obtain ⟨kids, hk⟩ : ∃ kids, kids = pre ++ p :: post := ⟨_, rfl⟩
  obtain ⟨a, ha⟩ : ∃ a, a = fromM es.length pre.length := ⟨_, rfl⟩
  obtain ⟨m, hmm⟩ : ∃ m, m = manyM es.length := ⟨_, rfl⟩
  rw [← hp, ← hk, ← ha, ← hmm] at hrow hqs hlow
  obtain ⟨c1, c2, c3, c4, c5⟩ := hd.ctx
  obtain ⟨o1, o2, o3, o4, o5⟩ := hd.ok
  have hes1 := hd.least (.inl rfl)
  have hes5 := hd.most
  have hkl : kids.length = pre.length + (post.length + 1) := by rw [hk]; simp
  have hal : a ≤ pre.length ∧ pre.length + 1 ≤ a + m ∧ a + m ≤ kids.length ∧ (m = 1 ∨ m = 2) ∧ (m = 1 → 2 ≤ es.length ∧ a = pre.length) ∧ (m = 2 → es.length = 1) := by
    rw [ha, hmm, hkl]
    unfold fromM manyM
    split <;> omega
  obtain ⟨a1, a2, a3, a4, a5, a6⟩ := hal
  have htake : kids.take a = pre.take a := by rw [hk, List.take_append_of_le_length a1]
  have hdrop : kids.drop (a + m) = post.drop (a + m - pre.length - 1) := by
    rw [hk, List.drop_append, List.drop_of_length_le (by omega), List.nil_append]
    obtain ⟨j, hj⟩ : ∃ j, a + m - pre.length = j + 1 := ⟨a + m - pre.length - 1, by omega⟩
    rw [hj]
    rfl
  have hsplit : kids = kids.take a ++ (kids.drop a).take m ++ kids.drop (a + m) := by
    rw [List.append_assoc, ← List.drop_drop, List.take_append_drop, List.take_append_drop]
  obtain ⟨those, hth⟩ : ∃ those, those = (kids.drop a).take m := ⟨_, rfl⟩
  rw [← hth] at hqs hlow hsplit
  have hthl : those.length = m := by rw [hth, List.length_take, List.length_drop]; omega
  have hpm : p ∈ those := by
    have : p ∈ kids := by rw [hk]; simp
    rw [hsplit] at this
    have hkp : kids[pre.length]? = some p := by rw [hk]; simp
    rw [hth, List.mem_iff_getElem?]
    refine ⟨pre.length - a, ?_⟩
    rw [List.getElem?_take, if_pos (by omega), List.getElem?_drop, show a + (pre.length - a) = pre.length by omega]
    exact hkp
  have hmem : ∀ q ∈ kids, q = p ∨ q ∈ pre ∨ q ∈ post := fun q hq => by
    rw [hk] at hq
    rcases List.mem_append.1 hq with hq | hq
    · exact .inr (.inl hq)
    · rcases List.mem_cons.1 hq with hq | hq
      · exact .inl hq
      · exact .inr (.inr hq)
  have hthm : ∀ q ∈ those, q ∈ kids := fun q hq => by rw [hth] at hq; exact List.mem_of_mem_drop (List.mem_of_mem_take hq)
  have hoth : ∀ q ∈ those, ∀ e ∈ q.es, OkE h e := fun q hq e he => by
    rcases hmem q (hthm q hq) with rfl | hq | hq
    · rw [hp] at he; exact hd.oke e he
    · exact (okE_pg.1 (o3 q hq)).2.2 e he
    · exact (okE_pg.1 (o4 q hq)).2.2 e he
  have hpe : p.es = es := by rw [hp]
  -- how much the pages hold
  have hsz : 2 ≤ (allEs those).length ∧ (allEs those).length ≤ 5 := by
    rcases a4 with e1 | e2
    · have : those = [p] := by
        rw [e1] at hthl
        match those, hthl, hpm with
        | [q], _, hpm => rw [List.mem_singleton.1 hpm]
      rw [this, allEs_cons, allEs_nil, List.append_nil, hpe]
      exact ⟨(a5 e1).1, hes5⟩
    · have h1 := a6 e2
      rw [e2] at hthl
      match those, hthl, hpm, hthm with
      | [q, r], _, hpm, hthm =>
        have hn : kids.Nodup ∨ True := .inr trivial
        -- the other one is no p: of pre or of post
        have hother : ∃ o, (o ∈ pre ∨ o ∈ post) ∧ ((q = p ∧ r = o) ∨ (q = o ∧ r = p)) := by
          have hq0 : kids[a]? = some q := by
            have := congrArg (fun l => l[0]?) hth
            simp only [List.getElem?_take, List.getElem?_drop] at this
            rw [e2] at this
            simpa using this.symm
          have hr0 : kids[a + 1]? = some r := by
            have := congrArg (fun l => l[1]?) hth
            simp only [List.getElem?_take, List.getElem?_drop] at this
            rw [e2] at this
            simpa using this.symm
          have hkp : kids[pre.length]? = some p := by rw [hk]; simp
          by_cases hap : a = pre.length
          · rw [hap, hkp] at hq0
            cases hq0
            refine ⟨r, .inr ?_, .inl ⟨rfl, rfl⟩⟩
            rw [hk, List.getElem?_append_right (by omega), show a + 1 - pre.length = 0 + 1 by omega, List.getElem?_cons_succ] at hr0
            exact List.mem_of_getElem? hr0
          · rw [show a + 1 = pre.length by omega, hkp] at hr0
            cases hr0
            refine ⟨q, .inl ?_, .inr ⟨rfl, rfl⟩⟩
            rw [hk, List.getElem?_append_left (by omega)] at hq0
            exact List.mem_of_getElem? hq0
        obtain ⟨o, ho, hoo⟩ := hother
        have hol : 2 ≤ o.es.length ∧ o.es.length ≤ 4 := by
          rcases ho with ho | ho
          · exact ⟨(okE_pg.1 (o3 o ho)).1, (okE_pg.1 (o3 o ho)).2.1⟩
          · exact ⟨(okE_pg.1 (o4 o ho)).1, (okE_pg.1 (o4 o ho)).2.1⟩
        rw [allEs_cons, allEs_cons, allEs_nil, List.append_nil, List.length_append]
        rcases hoo with ⟨rfl, rfl⟩ | ⟨rfl, rfl⟩ <;> rw [hpe] <;> omega
  have hqsl : qs.length = if (allEs those).length ≤ 4 then 1 else 2 := by
    have := congrArg List.length hqs
    rw [List.length_map] at this
    rw [this]
    unfold shareL
    split <;> rfl
  have hqok : ∀ q ∈ qs, OkE (h + 1) q := fun q hq => by
    have h1 : q.es ∈ qs.map (·.es) := List.mem_map.2 ⟨q, hq, rfl⟩
    rw [hqs] at h1
    obtain ⟨h2, h3, h4⟩ := shareL_ok hsz.1 (by omega) _ h1
    refine okE_pg.2 ⟨h2, h3, fun e he => ?_⟩
    obtain ⟨r, hr, he⟩ := List.mem_flatMap.1 (h4 e he)
    exact hoth r hr e he
  have hqb0 : ∀ i, totO (.down qb qsv qfv pre post up) pb sv es i = (if qb = i then 1 else 0) + (if qsv.ownBlock = some i then 1 else 0) + occL (h + 1) kids i + up.occ i := fun i => by
    have : occL (h + 1) kids i = occL (h + 1) pre i + (occ (h + 1) p i + occL (h + 1) post i) := by rw [hk, occL_append, occL_cons]
    rw [this, occ_pg, hp]
    simp only [totO, Ctx.occ]
    omega
  have hkocc : ∀ i, occL (h + 1) kids i = occL (h + 1) (kids.take a) i + occL (h + 1) those i + occL (h + 1) (kids.drop (a + m)) i := fun i => by rw [← occL_append, ← occL_append, ← hsplit]
  have hlt' : ∀ i, 0 < totO (.down qb qsv qfv pre post up) pb sv es i → i < w.heap.size := hd.lt
  have hsvn : ∀ i, sv'.ownBlock = some i → w.heap.size ≤ i := fun i hi => (hrow.lt i hi).1
  have hkept : Kept (totO (.down qb qsv qfv pre post up) pb sv es) w (totO up qb sv' (kids.take a ++ qs ++ kids.drop (a + m))) := fun i hi => by
    rw [hqb0, hkocc]
    unfold totO
    rw [if_neg (show ¬ sv'.ownBlock = some i from fun e => by have := hsvn i e; omega), occL_append, occL_append]
    have h1 := hlow i hi
    have h2 := occ_all i those
    omega
  have hnew : ∀ i, w.heap.size ≤ i → totO up qb sv' (kids.take a ++ qs ++ kids.drop (a + m)) i ≤ 1 := fun i hi => by
    have h0 : totO (.down qb qsv qfv pre post up) pb sv es i = 0 := by
      rcases Nat.eq_zero_or_pos (totO (.down qb qsv qfv pre post up) pb sv es i) with h | h
      · exact h
      · have := hlt' i h; omega
    rw [hqb0, hkocc] at h0
    unfold totO
    rw [occL_append, occL_append]
    have h1 := hhigh i hi
    omega
  have hdisj : ∀ q, (q ∈ kids.take a ∨ q ∈ kids.drop (a + m)) → (q ∈ pre ∨ q ∈ post) := fun q hq => by
    rcases hq with hq | hq
    · rw [htake] at hq; exact .inl (List.mem_of_mem_take hq)
    · rw [hdrop] at hq; exact .inr (List.mem_of_mem_drop hq)
  have hqb1 := hd.one qb
  rw [hqb0] at hqb1
  simp only [if_true] at hqb1
  have htbqb : tb ≠ qb := fun e => by rw [if_pos e] at hqb1; omega
  have hold : ∀ q, (q ∈ pre ∨ q ∈ post) → Lies (h + 1) K w' q := fun q hq => by
    have hl : Lies (h + 1) K w q := hq.elim (c3 q) (c4 q)
    refine hl.keep hsp (fun i hi e => ?_) (fun i hi e => ?_)
    · subst e
      have h1 : occ (h + 1) q i ≤ occL (h + 1) kids i := by
        rw [hk, occL_append, occL_cons]
        rcases hq with hq | hq
        · have := occ_mem (h := h + 1) hq i; omega
        · have := occ_mem (h := h + 1) hq i; omega
      omega
    · subst e
      have := (hd.kfree i hi).1
      rw [hqb0, if_pos rfl] at this
      omega
  refine ⟨sv', kids.take a ++ qs ++ kids.drop (a + m), ⟨?_, ⟨hblk, ?_⟩, ?_, ?_, o5, ?_, ?_, ?_, ?_, ?_⟩, ?_, hsp, hkept⟩
  · exact (hsp.block _ (block_lt hd.tree) htbqb).trans hd.tree
  · rw [rowC_pg]
    exact owns_lower hrow (fun _ _ => Nat.zero_le _)
  · intro q hq
    rcases List.mem_append.1 hq with hq | hq
    · rcases List.mem_append.1 hq with hq | hq
      · exact hold q (hdisj q (.inl hq))
      · exact hql q hq
    · exact hold q (hdisj q (.inr hq))
  · refine Ctx.Lies.keep hsp (fun i hi e => ?_) c5 (fun i hi e => ?_)
    · subst e
      have := (hd.kfree i hi).1
      rw [hqb0, if_pos rfl] at this
      omega
    · subst e
      omega
  · intro q hq
    rcases List.mem_append.1 hq with hq | hq
    · rcases List.mem_append.1 hq with hq | hq
      · exact (hdisj q (.inl hq)).elim (o3 q) (o4 q)
      · exact hqok q hq
    · exact (hdisj q (.inr hq)).elim (o3 q) (o4 q)
  · simp only [List.length_append, List.length_take, List.length_drop, hqsl]
    rcases a4 with e | e
    · split <;> omega
    · have := a6 e
      split <;> omega
  · intro _
    simp only [List.length_append, List.length_take, List.length_drop, hqsl]
    split <;> omega
  · intro i
    by_cases hi : i < w.heap.size
    · have h1 := hkept i hi
      have h2 := hd.one i
      omega
    · have h1 := hnew i (by omega)
      have h2 : ¬ tb = i := fun e => by have := block_lt hd.tree; omega
      rw [if_neg h2]
      omega
  · intro i hi
    obtain ⟨h1, h2, h3⟩ := hd.kfree i hi
    have h4 := hkept i h3
    exact ⟨by omega, h2, Nat.lt_of_lt_of_le h3 hsp.size⟩
  · rw [flatL_append, flatL_append, flat_all qs, allEs_flatten qs, hqs, shareL_flat, ← flat_all those, ← flatL_append, ← flatL_append, ← hsplit, hk, flatL_append, flatL_cons, flat_pg, hpe]
    simp
end Go.Proofs.Ytjfipejfejmlaaa
