/- shareOut, told of pages. -/
import Derived.Test.YtjfipejfejmlaaaBtShare
namespace Go.Proofs.Ytjfipejfejmlaaa
open Go.RowKit Go.Shelf
set_option linter.unusedVariables false
set_option linter.unusedSimpArgs false
set_option maxRecDepth 20000

def neO : (h : Nat) → List (Elem h) → Nat
  | 0, es => es.length
  | _ + 1, _ => 0
def npO : (h : Nat) → List (Elem h) → Nat
  | 0, _ => 0
  | _ + 1, es => es.length
def ceO : (h : Nat) → List (Elem h) → List Value
  | 0, es => rowC 0 es
  | _ + 1, _ => []
def cpO : (h : Nat) → List (Elem h) → List Value
  | 0, _ => []
  | h + 1, es => rowC (h + 1) es
def seO : Nat → Value → Value
  | 0, sv => sv
  | _ + 1, _ => nilS
def spO : Nat → Value → Value
  | 0, _ => nilS
  | _ + 1, sv => sv

theorem pcs_o (h : Nat) (sv fv : Value) : pcs h sv fv = #[seO h sv, spO h sv, fv] := by cases h <;> rfl

theorem rowC_length : ∀ (h : Nat) (es : List (Elem h)), (rowC h es).length = es.length * esz h
  | 0, es => by rw [rowC_zero, two_length]; rfl
  | h + 1, es => by rw [rowC_pg]; simp [esz]

theorem neO_append (h : Nat) (a b : List (Elem h)) : neO h (a ++ b) = neO h a + neO h b := by cases h <;> simp [neO]
theorem npO_append (h : Nat) (a b : List (Elem h)) : npO h (a ++ b) = npO h a + npO h b := by cases h <;> simp [npO]
theorem ceO_append (h : Nat) (a b : List (Elem h)) : ceO h (a ++ b) = ceO h a ++ ceO h b := by
  cases h with
  | zero => exact rowC_append 0 a b
  | succ h => rfl
theorem cpO_append (h : Nat) (a b : List (Elem h)) : cpO h (a ++ b) = cpO h a ++ cpO h b := by
  cases h with
  | zero => rfl
  | succ h => exact rowC_append (h + 1) a b
theorem neO_nil (h : Nat) : neO h [] = 0 := by cases h <;> rfl
theorem npO_nil (h : Nat) : npO h [] = 0 := by cases h <;> rfl
theorem ceO_nil (h : Nat) : ceO h [] = [] := by cases h <;> rfl
theorem cpO_nil (h : Nat) : cpO h [] = [] := by cases h <;> rfl

def toRP (h : Nat) (p : Pg h) : RP := ⟨p.pb, seO h p.sv, spO h p.sv, p.fv, neO h p.es, npO h p.es, ceO h p.es, cpO h p.es⟩

def allEs {h : Nat} (ps : List (Pg h)) : List (Elem h) := ps.flatMap fun p => p.es

theorem allEs_nil {h : Nat} : allEs ([] : List (Pg h)) = [] := rfl
theorem allEs_cons {h : Nat} (p : Pg h) (ps : List (Pg h)) : allEs (p :: ps) = p.es ++ allEs ps := by simp [allEs]

theorem sumE_to (h : Nat) : ∀ ps : List (Pg h), sumE (ps.map (toRP h)) = neO h (allEs ps)
  | [] => by simp [sumE, allEs_nil, neO_nil]
  | p :: ps => by
    have ih := sumE_to h ps
    rw [allEs_cons, neO_append, ← ih]
    simp [sumE, toRP]
theorem sumP_to (h : Nat) : ∀ ps : List (Pg h), sumP (ps.map (toRP h)) = npO h (allEs ps)
  | [] => by simp [sumP, allEs_nil, npO_nil]
  | p :: ps => by
    have ih := sumP_to h ps
    rw [allEs_cons, npO_append, ← ih]
    simp [sumP, toRP]
theorem allE_to (h : Nat) : ∀ ps : List (Pg h), allE (ps.map (toRP h)) = ceO h (allEs ps)
  | [] => by simp [allE, allEs_nil, ceO_nil]
  | p :: ps => by
    have ih := allE_to h ps
    rw [allEs_cons, ceO_append, ← ih]
    simp [allE, toRP]
theorem allP_to (h : Nat) : ∀ ps : List (Pg h), allP (ps.map (toRP h)) = cpO h (allEs ps)
  | [] => by simp [allP, allEs_nil, cpO_nil]
  | p :: ps => by
    have ih := allP_to h ps
    rw [allEs_cons, cpO_append, ← ih]
    simp [allP, toRP]

theorem two_take (xs : List EntV) (k : Nat) : (xs.flatMap EntV.two).take (k * 2) = (xs.take k).flatMap EntV.two := by
  induction xs generalizing k with
  | nil => simp
  | cons x xs ih =>
    cases k with
    | zero => simp
    | succ k =>
      rw [List.flatMap_cons, List.take_succ_cons, List.flatMap_cons, ← ih, show (k + 1) * 2 = k * 2 + 2 by omega]
      simp [EntV.two]

theorem two_drop (xs : List EntV) (k : Nat) : (xs.flatMap EntV.two).drop (k * 2) = (xs.drop k).flatMap EntV.two := by
  induction xs generalizing k with
  | nil => simp
  | cons x xs ih =>
    cases k with
    | zero => simp
    | succ k =>
      rw [List.flatMap_cons, List.drop_succ_cons, ← ih, show (k + 1) * 2 = k * 2 + 2 by omega]
      simp [EntV.two]

/-- The halves. -/
theorem half_o (h : Nat) (L : List (Elem h)) :
    (neO h L / 2 = neO h (L.take (L.length / 2)) ∧ npO h L / 2 = npO h (L.take (L.length / 2)) ∧ (ceO h L).take (neO h L / 2 * 2) = ceO h (L.take (L.length / 2)) ∧ (cpO h L).take (npO h L / 2) = cpO h (L.take (L.length / 2))) ∧
    (neO h L - neO h L / 2 = neO h (L.drop (L.length / 2)) ∧ npO h L - npO h L / 2 = npO h (L.drop (L.length / 2)) ∧ (ceO h L).drop (neO h L / 2 * 2) = ceO h (L.drop (L.length / 2)) ∧ (cpO h L).drop (npO h L / 2) = cpO h (L.drop (L.length / 2))) := by
  have l1 : (L.take (L.length / 2)).length = L.length / 2 := by rw [List.length_take]; omega
  have l2 : (L.drop (L.length / 2)).length = L.length - L.length / 2 := List.length_drop
  cases h with
  | zero =>
    refine ⟨⟨l1.symm, Nat.zero_div _, ?_, List.take_nil⟩, ⟨l2.symm, Nat.zero_sub _, ?_, List.drop_nil⟩⟩
    · show (rowC 0 L).take (L.length / 2 * 2) = rowC 0 (L.take (L.length / 2))
      rw [rowC_zero, two_take]; rfl
    · show (rowC 0 L).drop (L.length / 2 * 2) = rowC 0 (L.drop (L.length / 2))
      rw [rowC_zero, two_drop]; rfl
  | succ h =>
    refine ⟨⟨Nat.zero_div _, l1.symm, List.take_nil, ?_⟩, ⟨Nat.zero_sub _, l2.symm, List.drop_nil, ?_⟩⟩
    · show (rowC (h + 1) L).take (L.length / 2) = rowC (h + 1) (L.take (L.length / 2))
      rw [rowC_pg, ← List.map_take]; exact (rowC_pg h _).symm
    · show (rowC (h + 1) L).drop (L.length / 2) = rowC (h + 1) (L.drop (L.length / 2))
      rw [rowC_pg, ← List.map_drop]; exact (rowC_pg h _).symm

theorem says_slice {w : World} {v : Value} {bs : List UInt8} (h : Says w v bs) : ∃ a l c, v = .slice a l c := by
  obtain ⟨a, c, rfl, _⟩ := h
  exact ⟨_, _, _, rfl⟩

theorem fv_slice : ∀ {h : Nat} {K : Nat → Prop} {w : World} {e : Elem h}, Lies h K w e → ∃ a l c, fvE h e = .slice a l c
  | 0, K, w, e, hl => says_slice hl.1
  | h + 1, K, w, (e : PgOf (Elem h)), hl => by
    show ∃ a l c, e.fv = _
    rw [(lies_pg.1 hl).2.1]
    rcases hes : e.es with _ | ⟨x, xs⟩
    · exact ⟨_, _, _, rfl⟩
    · exact fv_slice ((lies_pg.1 hl).2.2 x (by simp [hes]))

theorem pg_cell2 {h : Nat} {w : World} {pb : Nat} {sv fv : Value} {es : List (Elem h)} (ha : At h w pb sv fv es) : w.cell? ⟨pb, 2, none⟩ = some fv := by
  rw [cell_of_row _ _ _ _ _ _ ha.blk, pcs_o]
  rfl

/-- The firsts of elements that lie. -/
theorem heads_of {h : Nat} {K : Nat → Prop} {w : World} {L : List (Elem h)} (hl : ∀ e ∈ L, Lies h K w e) : Heads w (ceO h L) (cpO h L) := by
  cases h with
  | zero =>
    refine ⟨fun u hu => (by cases hu), fun u hu => ?_⟩
    obtain ⟨x, hx, hu⟩ := List.mem_flatMap.1 (show u ∈ List.flatMap EntV.two L from hu)
    have := hl x hx
    simp only [EntV.two, List.mem_cons, List.not_mem_nil, or_false] at hu
    rcases hu with rfl | rfl
    · exact says_slice this.1
    · exact says_slice this.2.1
  | succ h =>
    refine ⟨fun u hu => ?_, fun u hu => (by cases hu)⟩
    have hu' : u ∈ rowC (h + 1) L := hu
    rw [rowC_pg] at hu'
    obtain ⟨p, hp, rfl⟩ := List.mem_map.1 hu'
    exact ⟨p.pb, p.fv, rfl, pg_cell2 (lies_pg.1 (hl p hp)).1, fv_slice (hl p hp)⟩

theorem fvL_of {h : Nat} {K : Nat → Prop} {w : World} {L : List (Elem h)} (hl : ∀ e ∈ L, Lies h K w e) {fv : Value} (hf : FirstIs w fv (neO h L) (npO h L) (ceO h L) (cpO h L)) : fv = fvL h L := by
  cases h with
  | zero =>
    rcases L with _ | ⟨x, xs⟩
    · exact hf.nil0 rfl rfl
    · have := hf.ents rfl (by simp [neO])
      simp only [ceO, rowC_zero, List.flatMap_cons, EntV.two] at this
      simp at this
      exact this.symm
  | succ h =>
    rcases L with _ | ⟨p, ps⟩
    · exact hf.nil0 rfl rfl
    · obtain ⟨b0, h1, h2⟩ := hf.pages (by simp [npO])
      have h3 : cpO (h + 1) (p :: ps) = ptr p.pb :: rowC (h + 1) ps := rowC_pg h (p :: ps) |>.trans (by rw [rowC_pg]; rfl)
      rw [h3] at h1
      simp [ptr] at h1
      subst h1
      rw [pg_cell2 (lies_pg.1 (hl p (by simp))).1] at h2
      cases h2
      rfl

/-- A new page lies. -/
theorem page_lies {h : Nat} {K : Nat → Prop} {w' : World} {B pb : Nat} {se sp fv : Value} {L : List (Elem h)} (hp : Pag w' B pb se sp fv (neO h L) (npO h L) (ceO h L) (cpO h L)) (hf : fv = fvL h L) (hl : ∀ e ∈ L, Lies h K w' e) (hne : 0 < h → se = nilS) (hnp : h = 0 → sp = nilS) :
    ∃ sv, Lies (h + 1) K w' (⟨pb, sv, fv, L⟩ : Pg h) ∧ w'.ownsRow B (ety h) (esz h) sv L.length (rowC h L) ∧ (sv = se ∨ sv = sp) := by
  cases h with
  | zero =>
    have h0 := hnp rfl
    subst h0
    exact ⟨se, lies_pg.2 ⟨⟨hp.blk, owns_lower hp.rowe (fun _ _ => Nat.zero_le _)⟩, hf, hl⟩, hp.rowe, .inl rfl⟩
  | succ h =>
    have h0 := hne (by omega)
    subst h0
    exact ⟨sp, lies_pg.2 ⟨⟨hp.blk, owns_lower hp.rowp (fun _ _ => Nat.zero_le _)⟩, hf, hl⟩, hp.rowp, .inr rfl⟩

/-- How many pages elements make. -/
def shareL {α : Type} (L : List α) : List (List α) := if L.length ≤ 4 then [L] else [L.take (L.length / 2), L.drop (L.length / 2)]

theorem shareL_flat {α : Type} (L : List α) : (shareL L).flatten = L := by
  unfold shareL
  split <;> simp

/-- What of pages some new pages hold. -/
structure Fresh (h : Nat) (K : Nat → Prop) (w w' : World) (old : Nat → Nat) (qs : List (Pg h)) : Prop where
  lies : ∀ q ∈ qs, Lies (h + 1) K w' q
  low : ∀ i, i < w.heap.size → occL (h + 1) qs i ≤ old i
  high : ∀ i, w.heap.size ≤ i → occL (h + 1) qs i ≤ 1

theorem type_apart {w : World} {pb : Nat} {cs : Array Value} {t : TypeId} {B e s n : Nat} {v : Value} {xs : List Value} (hb : w.heap[pb]? = some (.cells cs t (0, 0))) (h : w.ownsRow B e s v n xs) (hne : e ≠ t) : v.ownBlock ≠ some pb := fun hv => by
  rcases h.2 with ⟨rfl, _⟩ | ⟨g, _, _, rfl, _, h1, _⟩
  · cases hv
  · have : g = pb := by simpa [Value.ownBlock] using hv
    subst this
    rw [hb] at h1
    cases h1
    exact hne rfl

theorem ety_ne (h : Nat) : ety h ≠ 66 := by
  cases h with
  | zero => decide
  | succ h => show 53 ≠ 66; decide

/-- The blocks of one new page. -/
theorem occ_new {h : Nat} {K : Nat → Prop} {w w' : World} {B pb : Nat} {sv fv : Value} {L : List (Elem h)} (hB : w.heap.size ≤ B) (hl : ∀ e ∈ L, Lies h K w e) (hq : Lies (h + 1) K w' (⟨pb, sv, fv, L⟩ : Pg h)) (hr : w'.ownsRow B (ety h) (esz h) sv L.length (rowC h L)) (hpb : B ≤ pb) :
    (∀ i, i < B → occ (h + 1) (⟨pb, sv, fv, L⟩ : Pg h) i = occL h L i) ∧ (∀ i, w.heap.size ≤ i → occL h L i = 0) ∧ ∀ i, B ≤ i → occ (h + 1) (⟨pb, sv, fv, L⟩ : Pg h) i ≤ 1 := by
  have h0 : ∀ i, w.heap.size ≤ i → occL h L i = 0 := fun i hi => by
    rcases Nat.eq_zero_or_pos (occL h L i) with h1 | h1
    · exact h1
    · have := liesL_lt hl i h1; omega
  refine ⟨fun i hi => ?_, h0, fun i hi => ?_⟩
  · rw [occ_pg, if_neg (by show ¬ pb = i; omega), if_neg (fun hs : sv.ownBlock = some i => by have := (hr.lt i hs).1; omega)]
    simp
  · rw [occ_pg]
    have h1 := h0 i (by omega)
    have h2 : ¬ (pb = i ∧ sv.ownBlock = some i) := fun ⟨e1, e2⟩ => by
      subst e1
      exact type_apart (lies_pg.1 hq).1.blk hr (ety_ne h) e2
    show (if pb = i then 1 else 0) + (if sv.ownBlock = some i then 1 else 0) + occL h L i ≤ 1
    rw [h1]
    split <;> split <;> simp_all

set_option maxHeartbeats 1000000 in
/-- shareOut: new pages with all that these hold. -/
theorem share_any (h : Nat) (K : Nat → Prop) (v : Value) (ps : List (Pg h)) (w : World) (hv : Rw w 1 v ps.length (ps.map fun p => ptr p.pb)) (hps : ∀ p ∈ ps, At h w p.pb p.sv p.fv p.es ∧ ∀ e ∈ p.es, Lies h K w e) (hes : ∀ p ∈ ps, p.es.length ≤ 1000) (hl : ps.length ≤ 100) :
    Calls Try.prog 49 #[v] w fun e w' => ∃ rv qs, e = .returned rv ∧ w'.ownsRow w.heap.size 53 1 rv qs.length (qs.map fun q => ptr q.pb) ∧ qs.map (·.es) = shareL (allEs ps) ∧ Fresh h K w w' (occL h (allEs ps)) qs ∧ Below w.heap.size w w' := by
  have hall : ∀ e ∈ allEs ps, Lies h K w e := fun e he => by
    obtain ⟨p, hp, he⟩ := List.mem_flatMap.1 he
    exact (hps p hp).2 e he
  have hne : ∀ p ∈ ps.map (toRP h), p.ne ≤ 1000 := fun q hq => by
    obtain ⟨p, hp, rfl⟩ := List.mem_map.1 hq
    have := hes p hp
    cases h with
    | zero => exact this
    | succ h => exact Nat.zero_le _
  have hnp : ∀ p ∈ ps.map (toRP h), p.np ≤ 1000 := fun q hq => by
    obtain ⟨p, hp, rfl⟩ := List.mem_map.1 hq
    have := hes p hp
    cases h with
    | zero => exact Nat.zero_le _
    | succ h => exact this
  have hcell : ∀ (es : List (Elem h)), (∀ e ∈ es, Lies h K w e) → ∀ u ∈ rowC h es, u.oneCell' = true := fun es hes u hu => by
    have hH := heads_of hes
    cases h with
    | zero => obtain ⟨a, l, c, rfl⟩ := hH.2 u hu; rfl
    | succ h => obtain ⟨b, f, rfl, _⟩ := hH.1 u hu; rfl
  have hat : ∀ p ∈ ps.map (toRP h), p.at w := fun q hq => by
    obtain ⟨p, hp, rfl⟩ := List.mem_map.1 hq
    obtain ⟨ha, hle⟩ := hps p hp
    have hr := rw_of_owns ha.row (hcell _ hle)
    have hb := ha.blk
    rw [pcs_o] at hb
    cases h with
    | zero => exact ⟨hb, hr, rw_nil _ _⟩
    | succ h => exact ⟨hb, rw_nil _ _, hr⟩
  have hH := heads_of hall
  have hse : 0 < h → ∀ p ∈ ps.map (toRP h), p.se = nilS := fun h0 q hq => by
    obtain ⟨p, hp, rfl⟩ := List.mem_map.1 hq
    cases h with
    | zero => omega
    | succ h => rfl
  have hsp : h = 0 → ∀ p ∈ ps.map (toRP h), p.sp = nilS := fun h0 q hq => by
    obtain ⟨p, hp, rfl⟩ := List.mem_map.1 hq
    subst h0
    rfl
  have hS := shareOut_any v (ps.map (toRP h)) w (by rw [List.length_map, List.map_map]; exact hv) hat hne hnp (by simpa using hl) (by rw [allE_to, allP_to]; exact hH)
  simp only [sumE_to, sumP_to] at hS
  have hif : (neO h (allEs ps) ≤ 4 ∧ npO h (allEs ps) ≤ 4) ↔ (allEs ps).length ≤ 4 := by cases h <;> simp [neO, npO]
  refine hS.mono ?_
  rintro e w' ⟨rv, rfl, h1, h2, hb⟩
  have hz := hb.size
  by_cases h4 : (allEs ps).length ≤ 4
  · obtain ⟨pb, se, sp, fv, q1, q2, q3, q4, q5, q6⟩ := (h1 (hif.2 h4)).out
    simp only [sumE_to, sumP_to, allE_to, allP_to] at q2 q3
    have hfv := fvL_of hall q3
    obtain ⟨sv, k1, k2, k3⟩ := page_lies q2 hfv (fun e he => (hall e he).new hb) (fun h0 => q4 (hse h0)) (fun h0 => q5 (hsp h0))
    obtain ⟨o1, o2, o3⟩ := occ_new (Nat.le_refl _) hall k1 k2 q2.low
    refine ⟨rv, [⟨pb, sv, fv, allEs ps⟩], rfl, q1, by simp [shareL, h4], ⟨fun q hq => by rw [List.mem_singleton.1 hq]; exact k1, fun i hi => ?_, fun i hi => ?_⟩, hb⟩
    · rw [occL_cons, occL_nil, o1 i hi]; omega
    · rw [occL_cons, occL_nil]; exact o3 i hi
  · obtain ⟨m, pb, se, sp, fv, pb2, se2, sp2, fv2, hm, q1, q2, q3, q2', q3', l1, l2, l3, q6, q4, q5⟩ := (h2 (fun hh => h4 (hif.1 hh))).out
    simp only [sumE_to, sumP_to, allE_to, allP_to] at q2 q3 q2' q3'
    obtain ⟨⟨e1, e2, e3, e4⟩, ⟨f1, f2, f3, f4⟩⟩ := half_o h (allEs ps)
    rw [f1, f2, f3, f4] at q2' q3'
    rw [e3, e4, e1, e2] at q2 q3
    have ha1 : ∀ e ∈ (allEs ps).take ((allEs ps).length / 2), Lies h K w e := fun e he => hall e (List.mem_of_mem_take he)
    have ha2 : ∀ e ∈ (allEs ps).drop ((allEs ps).length / 2), Lies h K w e := fun e he => hall e (List.mem_of_mem_drop he)
    obtain ⟨sv, k1, k2, k3⟩ := page_lies q2 (fvL_of ha1 q3) (fun e he => (ha1 e he).new hb) (fun h0 => (q4 (hse h0)).1) (fun h0 => (q5 (hsp h0)).1)
    obtain ⟨sv2, m1, m2, m3⟩ := page_lies q2' (fvL_of ha2 q3') (fun e he => (ha2 e he).new hb) (fun h0 => (q4 (hse h0)).2) (fun h0 => (q5 (hsp h0)).2)
    obtain ⟨o1, o2, o3⟩ := occ_new (Nat.le_refl _) ha1 k1 k2 q2.low
    obtain ⟨p1, p2, p3⟩ := occ_new hm ha2 m1 m2 q2'.low
    have hsum : ∀ i, occL h (allEs ps) i = occL h ((allEs ps).take ((allEs ps).length / 2)) i + occL h ((allEs ps).drop ((allEs ps).length / 2)) i := fun i => by rw [← occL_append, List.take_append_drop]
    refine ⟨rv, [⟨pb, sv, fv, (allEs ps).take ((allEs ps).length / 2)⟩, ⟨pb2, sv2, fv2, (allEs ps).drop ((allEs ps).length / 2)⟩], rfl, owns_lower q1 (fun g hg => by have := (q1.lt g hg).1; omega), by simp [shareL, h4], ⟨fun q hq => ?_, fun i hi => ?_, fun i hi => ?_⟩, hb⟩
    · simp only [List.mem_cons, List.not_mem_nil, or_false] at hq
      rcases hq with rfl | rfl
      · exact k1
      · exact m1
    · rw [occL_cons, occL_cons, occL_nil, o1 i hi, p1 i (by omega), hsum i]; omega
    · rw [occL_cons, occL_cons, occL_nil]
      by_cases him : i < m
      · rw [p1 i him, p2 i hi]
        have := o3 i hi
        omega
      · have : occ (h + 1) (⟨pb, sv, fv, (allEs ps).take ((allEs ps).length / 2)⟩ : Pg h) i = 0 := by
          rw [occ_pg, if_neg (by show ¬ pb = i; omega), if_neg (fun hs : sv.ownBlock = some i => ?_)]
          · show 0 + 0 + occL h _ i = 0
            rw [o2 i hi]
          · rcases k3 with rfl | rfl
            · have := l2 i hs; omega
            · have := l3 i hs; omega
        rw [this]
        have := p3 i (by omega)
        omega
end Go.Proofs.Ytjfipejfejmlaaa
