/- Contracts of the document's own Put, Get, Delete. -/
import Derived.Test.YthkeofinamedfaaDoorRef4E
import Derived.Test.YthkeofinamedfaaDoorRootsP
namespace Go.Proofs.YthkeofinamedfaaDoor
open Go.RowKit Go.Shelf
set_option linter.unusedVariables false
set_option linter.unusedSimpArgs false
set_option maxRecDepth 20000

theorem flat_cells : ∀ (ys : List EntV) (j : Nat) (u : Value), (ys.flatMap EntV.two)[j]? = some u → ∃ q x, ys[q]? = some x ∧ ((j = q * 2 ∧ u = x.kv) ∨ (j = q * 2 + 1 ∧ u = x.vv))
  | [], j, u, h => by simp at h
  | y :: ys, 0, u, h => ⟨0, y, rfl, .inl ⟨rfl, by simp [EntV.two] at h; exact h.symm⟩⟩
  | y :: ys, 1, u, h => ⟨0, y, rfl, .inr ⟨rfl, by simp [EntV.two] at h; exact h.symm⟩⟩
  | y :: ys, j + 2, u, h => by
    obtain ⟨q, x, hq, hc⟩ := flat_cells ys j u (by simpa [EntV.two] using h)
    exact ⟨q + 1, x, by simpa using hq, hc.imp (fun h => ⟨by omega, h.2⟩) (fun h => ⟨by omega, h.2⟩)⟩

theorem Ents.cells {B : Nat} {w : World} {ad : Addr} {l c : Nat} {ys : List EntV} (h : Ents B w (.slice (some ad) l c) ys) : l = ys.length ∧ (∀ j u, (ys.flatMap EntV.two)[j]? = some u → w.cell? (ad.add j) = some u) ∧ ∀ u ∈ ys.flatMap EntV.two, u.oneCell' = true := by
  obtain ⟨a, c', hv, h1, h2, h3⟩ := h
  simp only [Value.slice.injEq] at hv
  obtain ⟨rfl, rfl, rfl⟩ := hv
  refine ⟨rfl, fun j u hu => ?_, fun u hu => ?_⟩
  · obtain ⟨q, x, hq, hc⟩ := flat_cells ys j u hu
    obtain ⟨b, off, hb, hlt, hcs⟩ := h3 (by intro e; rw [e] at hq; simp at hq)
    simp only [Option.some.injEq] at hb
    subst hb
    obtain ⟨c0, c1, _, _⟩ := hcs q x hq
    have e : ∀ j, (⟨b, off, none⟩ : Addr).add j = ⟨b, off + j, none⟩ := fun j => by unfold Addr.add; split <;> simp_all
    rw [e]
    rcases hc with ⟨rfl, rfl⟩ | ⟨rfl, rfl⟩
    · exact c0
    · rw [← Nat.add_assoc]; exact c1
  · obtain ⟨j, hj⟩ := List.getElem?_of_mem hu
    obtain ⟨q, x, hq, hc⟩ := flat_cells ys j u hj
    obtain ⟨b, off, hb, hlt, hcs⟩ := h3 (by intro e; rw [e] at hq; simp at hq)
    obtain ⟨_, _, ⟨a1, c1, e1, _⟩, ⟨a2, c2, e2, _⟩⟩ := hcs q x hq
    rcases hc with ⟨_, rfl⟩ | ⟨_, rfl⟩
    · rw [e1]; rfl
    · rw [e2]; rfl

theorem two_length : ∀ ys : List EntV, (ys.flatMap EntV.two).length = ys.length * 2
  | [] => rfl
  | y :: ys => by
    have := two_length ys
    simp only [List.flatMap_cons, List.length_append, List.length_cons, this]
    simp [EntV.two]
    omega

/-- A row of entries is added at the end of another. -/
theorem wpList_append_ents {ops : Array Oper} {rest : List Oper} {o : Oper} {a : Act} {Q : Exit → Act → World → Prop} (w : World) (hgd : o.guard = none) (s x : Operand)
    (ho : o.op = .call { callee := .builtin .append, args := #[s, x], argTypes := #[33, 33] })
    (base : Nat) (v : Value) (n : Nat) (xs : List Value) (hs : a.eval s = v) (hown : w.ownsRow base 52 2 v n xs)
    (B : Nat) (vx : Value) (ys : List EntV) (hx : a.eval x = vx) (hsrc : Ents B w vx ys) (hnil : ∀ l c, vx = .slice none l c → c = 0)
    (hbytes : (n + ys.length) * 48 ≤ 140737488355328) (hbase : base ≤ w.heap.size)
    (h : ∀ v' w', w'.ownsRow base 52 2 v' (n + ys.length) (xs ++ ys.flatMap EntV.two) → w.grownBy w' v.ownBlock → wpList Tryd.prog ops Q rest (a.put o.dst v') w') : wpList Tryd.prog ops Q (o :: rest) a w := by
  obtain ⟨i0, hi, hz0, hz1, hz2⟩ := info_parts Tryd.infoEntryZ
  obtain ⟨ax, cx, rfl, h1, h2, h3⟩ := id hsrc
  cases ax with
  | none =>
    have hc := hnil _ _ rfl
    have hv : ys = [] := List.eq_nil_of_length_eq_zero (by omega)
    subst hv
    subst hc
    refine wpList_append_own_none hgd s x _ ho base 52 i0 2 Tryd.underlying33 hi v n xs hs hown hx ?_
    exact h v w (by simpa using hown) (World.grownBy.refl w _)
  | some ad =>
    obtain ⟨_, q1, q2⟩ := hsrc.cells
    have hl := two_length ys
    refine wpList_append_own w hgd s x _ ho base 52 i0 _ 2 48 Tryd.underlying33 hi hz0 hz1 hz2 rfl (by decide) v n xs hs hown ad ys.length cx (ys.flatMap EntV.two) hx hl q1 q2 (by unfold maxLen; omega) hbytes hbase ?_
    intro v' w' ho' hg' _
    exact h v' w' ho' hg'

/-- With an entry in its place. -/
def putL (L : List Ent) (e : Ent) : List Ent := L.take (atK L e.1) ++ e :: L.drop (if (L[atK L e.1]?.map (·.1)) = some e.1 then atK L e.1 + 1 else atK L e.1)

theorem less_ne {a b : List UInt8} (h : Op.bytesLess a b = true) : a ≠ b := fun e => by rw [e, less_irrefl] at h; cases h

theorem putL_spec {L : List Ent} (hr : Tri.Rises L) (e : Ent) : Tri.Rises (putL L e) ∧ ∀ f, f ∈ putL L e ↔ f = e ∨ (f ∈ L ∧ f.1 ≠ e.1) := by
  unfold putL
  have hA : ∀ f ∈ L.take (atK L e.1), Op.bytesLess f.1 e.1 = true := fun f hf => by
    obtain ⟨j, hj⟩ := List.getElem?_of_mem hf
    rw [List.getElem?_take] at hj
    split at hj
    · rename_i hlt; exact atK_lt L e.1 j f hj hlt
    · cases hj
  have hsp : L = L.take (atK L e.1) ++ L.drop (atK L e.1) := (List.take_append_drop _ _).symm
  have hat := atK_at L e.1
  have hk : L[atK L e.1]? = (L.drop (atK L e.1))[0]? := by rw [List.getElem?_drop]; rfl
  have hd1 : L.drop (if (L[atK L e.1]?.map (·.1)) = some e.1 then atK L e.1 + 1 else atK L e.1) = if (L[atK L e.1]?.map (·.1)) = some e.1 then (L.drop (atK L e.1)).drop 1 else L.drop (atK L e.1) := by split <;> simp [List.drop_drop]
  rw [hd1, hk]
  rw [hk] at hat
  generalize L.take (atK L e.1) = A at *
  generalize L.drop (atK L e.1) = B at *
  subst hsp
  obtain ⟨r1, r2, r3⟩ := List.pairwise_append.1 hr
  cases B with
  | nil =>
    simp only [List.getElem?_nil, Option.map_none, List.drop_nil, ite_self]
    refine ⟨List.pairwise_append.2 ⟨r1, by simp, fun f hf g hg => by simp at hg; subst hg; exact hA f hf⟩, fun f => ?_⟩
    simp only [List.mem_append, List.mem_cons, List.not_mem_nil, or_false]
    exact ⟨fun h => h.elim (fun h => .inr ⟨h, less_ne (hA f h)⟩) .inl, fun h => h.elim .inr (fun h => .inl h.1)⟩
  | cons b B =>
    have hb := hat b rfl
    simp only [List.getElem?_cons_zero, Option.map_some, Option.some.injEq, List.drop_succ_cons, List.drop_zero]
    obtain ⟨b1, b2⟩ := List.pairwise_cons.1 r2
    by_cases hbe : b.1 = e.1
    · rw [if_pos hbe]
      refine ⟨List.pairwise_append.2 ⟨r1, List.pairwise_cons.2 ⟨fun f hf => by rw [← hbe]; exact b1 f hf, b2⟩, fun f hf g hg => ?_⟩, fun f => ?_⟩
      · rcases List.mem_cons.1 hg with rfl | hg
        · exact hA f hf
        · exact r3 f hf g (by simp [hg])
      · simp only [List.mem_append, List.mem_cons]
        constructor
        · rintro (h | h | h)
          · exact .inr ⟨.inl h, less_ne (hA f h)⟩
          · exact .inl h
          · exact .inr ⟨.inr (.inr h), fun e' => less_ne (b1 f h) (hbe.trans e'.symm)⟩
        · rintro (h | ⟨h | h | h, hne⟩)
          · exact .inr (.inl h)
          · exact .inl h
          · subst h; exact absurd hbe hne
          · exact .inr (.inr h)
    · rw [if_neg hbe]
      have heb : Op.bytesLess e.1 b.1 = true := by
        have := less_total b.1 e.1 hbe
        rw [hb] at this
        simpa using this.symm
      have hall : ∀ f ∈ b :: B, Op.bytesLess e.1 f.1 = true := fun f hf => by
        rcases List.mem_cons.1 hf with rfl | hf
        · exact heb
        · exact less_trans _ _ _ heb (b1 f hf)
      refine ⟨List.pairwise_append.2 ⟨r1, List.pairwise_cons.2 ⟨hall, r2⟩, fun f hf g hg => ?_⟩, fun f => ?_⟩
      · rcases List.mem_cons.1 hg with rfl | hg
        · exact hA f hf
        · exact r3 f hf g hg
      · rw [List.mem_append, List.mem_cons, List.mem_append]
        constructor
        · rintro (h | h | h)
          · exact .inr ⟨.inl h, less_ne (hA f h)⟩
          · exact .inl h
          · exact .inr ⟨.inr h, fun e' => less_ne (hall f h) e'.symm⟩
        · rintro (h | ⟨h | h, _⟩)
          · exact .inr (.inl h)
          · exact .inl h
          · exact .inr (.inr h)

theorem put_row {T : Option Tri} (hT : Tri.WFO T) (e : Ent) (he : Tri.short e) : putL (Tri.entsO T) e = (Tri.put T e).ents := by
  obtain ⟨hw, hm⟩ := Tri.put_spec T hT e he
  obtain ⟨h1, h2⟩ := putL_spec (risesO hT) e
  exact Tri.Rises.ext h1 (Tri.rises _ hw) fun f => by rw [h2, hm]

theorem row_form2 {w : World} {B e n : Nat} {v : Value} {xs : List Value} (h : w.ownsRow B e 2 v n xs) : (∃ a c, v = .slice a n c) ∧ (v = .slice none 0 0 ∨ ∃ g c, v = .slice (some ⟨g, 0, none⟩) n c) := by
  rcases h.2 with ⟨rfl, hn⟩ | ⟨g, cap, cur, rfl, _⟩
  · exact ⟨⟨none, 0, by rw [hn]⟩, .inl rfl⟩
  · exact ⟨⟨_, _, rfl⟩, .inr ⟨_, _, rfl⟩⟩

/-- A row of entries that a call has made, of entries in blocks of S. -/
theorem entsS_of {S : Nat → Prop} {B : Nat} {w : World} {sv : Value} {ys : List EntV} (hr : w.ownsRow B 52 2 sv ys.length (ys.flatMap EntV.two)) (hs : ∀ y ∈ ys, Says w y.kv y.k ∧ Says w y.vv y.v ∧ InS S y.kv ∧ InS S y.vv) (hB : ∀ i, B ≤ i → i < w.heap.size → S i) : EntsS S w sv ys := by
  refine ⟨?_, fun g hg => hB g (hr.lt g hg).1 (hr.lt g hg).2, fun y hy => (hs y hy).2.2, (row_form2 hr).2⟩
  rcases hr.2 with ⟨rfl, h0⟩ | ⟨g, cap, cur, rfl, hBg, hg, h1, h2, h3, h4⟩
  · have : ys = [] := List.eq_nil_of_length_eq_zero h0
    subst this
    exact ⟨none, 0, rfl, Nat.le_refl _, by unfold maxLen; omega, fun h => absurd rfl h⟩
  · refine ⟨_, cap, rfl, h1, h2, fun hne => ⟨g, 0, rfl, (Array.getElem?_eq_some_iff.1 hg).1, fun j x hx => ?_⟩⟩
    have hj : j < ys.length := (List.getElem?_eq_some_iff.1 hx).1
    obtain ⟨f0, f1⟩ := flat_two ys j x hx
    rw [← h4, List.getElem?_take, if_pos (by omega), Array.getElem?_toList] at f0 f1
    obtain ⟨s1, s2, _⟩ := hs x (List.mem_of_getElem? hx)
    exact ⟨by rw [cell_of_row _ _ _ _ _ _ hg, Nat.zero_add]; exact f0, by rw [cell_of_row _ _ _ _ _ _ hg, Nat.zero_add]; exact f1, s1, s2⟩

theorem Ents.says {B : Nat} {w : World} {v : Value} {xs : List EntV} (h : Ents B w v xs) (hB : B ≤ w.heap.size) : ∀ x ∈ xs, Says w x.kv x.k ∧ Says w x.vv x.v := fun x hx => by
  obtain ⟨a, c, _, _, _, h3⟩ := h
  obtain ⟨b, off, _, _, hc⟩ := h3 (by intro e; rw [e] at hx; cases hx)
  obtain ⟨j, hj⟩ := List.getElem?_of_mem hx
  obtain ⟨_, _, s1, s2⟩ := hc j x hj
  exact ⟨s1.mono hB, s2.mono hB⟩

/-- The end of Put and Delete: the new row is laid into the tree. -/
theorem xs_store {S : Nat → Prop} {w W : World} {xb : Nat} {sv' sv : Value} {ys : List EntV} (hx : W.heap[xb]? = some (.cells #[sv] 35 (0, 0))) (hxb : S xb) (hlt : ∀ i, S i → i < w.heap.size) (hb : Below w.heap.size w W) (hr : W.ownsRow w.heap.size 52 2 sv' ys.length (ys.flatMap EntV.two))
    (hs : ∀ y ∈ ys, Says W y.kv y.k ∧ Says W y.vv y.v ∧ InS (ext S w W) y.kv ∧ InS (ext S w W) y.vv) (hu : ∀ n, sv ≠ .int .u8 n) :
    XS (ext S w (W.setCell ⟨xb, 0, none⟩ sv')) (W.setCell ⟨xb, 0, none⟩ sv') xb ys ∧ Spares (fun i => i = xb) w (W.setCell ⟨xb, 0, none⟩ sv') := by
  have hz : (W.setCell ⟨xb, 0, none⟩ sv').heap.size = W.heap.size := by simp [World.setCell]
  have hxw := hlt xb hxb
  have sp : Spares (fun i => i = xb) W (W.setCell ⟨xb, 0, none⟩ sv') := spares_set W ⟨xb, 0, none⟩ sv'
  have hE : EntsS (ext S w W) W sv' ys := entsS_of hr hs (fun i h1 h2 => .inr ⟨h1, h2⟩)
  have hby : Bytes W (W.setCell ⟨xb, 0, none⟩ sv') := ⟨sp.size, fun ad n hc => sp.cell hc (fun e => by
    have e' : ad.block = xb := e
    unfold World.cell? at hc
    rw [e', hx] at hc
    simp only at hc
    split at hc
    · cases hc
    · have : ad.off = 0 := by
        rcases Nat.eq_zero_or_pos ad.off with h | h
        · exact h
        · exfalso
          rw [show (#[sv] : Array Value)[ad.off]? = none from Array.getElem?_eq_none (by simp; omega)] at hc
          cases hc
      rw [this] at hc
      simp at hc
      exact hu n hc)⟩
  refine ⟨⟨⟨sv', heap_setCell_same _ _ _ _ _ _ hx, ?_⟩, .inl hxb, fun i hi => ?_⟩, (Spares.of_new hb).andThen sp (fun i hi => .inl hi)⟩
  · refine ⟨?_, fun g hg => by have := hE.row g hg; unfold ext at *; rw [hz]; exact this, fun y hy => ⟨fun g hg => by have := (hE.all y hy).1 g hg; unfold ext at *; rw [hz]; exact this, fun g hg => by have := (hE.all y hy).2 g hg; unfold ext at *; rw [hz]; exact this⟩, hE.form⟩
    have hr2 := sp.row hr (fun g hg e => by have h1 := (hr.lt g hg).1; have e' : g = xb := e; omega)
    exact (entsS_of (S := fun _ => True) hr2 (fun y hy => ⟨(hs y hy).1.bytes hby, (hs y hy).2.1.bytes hby, fun _ _ => trivial, fun _ _ => trivial⟩) (fun _ _ _ => trivial)).ents
  · rcases hi with hi | hi
    · have := hlt i hi; have := hb.size; rw [hz]; omega
    · exact hi.2

theorem ents_nil (B : Nat) (w : World) (a : Option Addr) (l c : Nat) (hl : l = 0) (hc : c ≤ maxLen) : Ents B w (.slice a l c) [] := ⟨a, c, by rw [hl]; rfl, Nat.zero_le _, hc, fun h => absurd rfl h⟩

/-- Rows of unlike types lie in unlike blocks. -/
theorem rows_apart {w : World} {B B' e e' s s' n m : Nat} {v u : Value} {xs ys : List Value} (h : w.ownsRow B e s v n xs) (k : w.ownsRow B' e' s' u m ys) (hne : e ≠ e') : ∀ g, v.ownBlock = some g → u.ownBlock ≠ some g := fun g hv hu => by
  rcases h.2 with ⟨rfl, _⟩ | ⟨g1, _, _, rfl, _, h1, _⟩
  · cases hv
  · rcases k.2 with ⟨rfl, _⟩ | ⟨g2, _, _, rfl, _, h2, _⟩
    · cases hu
    · have e1 : g1 = g := by simpa [Value.ownBlock] using hv
      have e2 : g2 = g := by simpa [Value.ownBlock] using hu
      subst e1
      subst e2
      rw [h1] at h2
      simp only [Option.some.injEq, Obj.cells.injEq] at h2
      exact hne h2.2.1

/-- What Put lays into the tree. -/
theorem put_end {S : Nat → Prop} {w W wC : World} {xb m k' n : Nat} {sv vB kv' vv' vC : Value} {xs : List EntV} {key val : List UInt8} (hx : w.heap[xb]? = some (.cells #[sv] 35 (0, 0))) (hE : EntsS S w sv xs) (hxb : S xb) (hlt : ∀ i, S i → i < w.heap.size)
    (hb : Below w.heap.size w W) (hB : W.ownsRow w.heap.size 52 2 vB (m + 1) ((xs.take m).flatMap EntV.two ++ [kv', vv'])) (hk : Copy w.heap.size W kv' key) (hv : Copy w.heap.size W vv' val) (hm : m ≤ xs.length) {L : List Value}
    (hC : wC.ownsRow w.heap.size 52 2 vC n L) (hL : L = ((xs.take m).flatMap EntV.two ++ [kv', vv']) ++ (xs.drop k').flatMap EntV.two) (hg : W.grownBy wC vB.ownBlock) :
    wC.cell? ⟨xb, 0, none⟩ = some sv ∧ wC.frozen? ⟨xb, 0, none⟩ = false ∧ XS (ext S w (wC.setCell ⟨xb, 0, none⟩ vC)) (wC.setCell ⟨xb, 0, none⟩ vC) xb (xs.take m ++ ⟨kv', vv', key, val⟩ :: xs.drop k') ∧
      (xs.take m ++ ⟨kv', vv', key, val⟩ :: xs.drop k').map EntV.ent = (xs.take m).map EntV.ent ++ (key, val) :: (xs.drop k').map EntV.ent ∧ Spares (fun i => i = xb) w (wC.setCell ⟨xb, 0, none⟩ vC) := by
  subst hL
  have hn : n = m + 1 + (xs.drop k').length := by
    have h1 := hC.1
    have h2 := two_length (xs.take m)
    have h3 := two_length (xs.drop k')
    rw [List.length_append, List.length_append, h2, h3, List.length_take, Nat.min_eq_left hm] at h1
    simp only [List.length_cons, List.length_nil] at h1
    omega
  subst hn
  have hlow : ∀ q, vB.ownBlock = some q → w.heap.size ≤ q := fun q hq => (hB.lt q hq).1
  have hbC : Below w.heap.size w wC := hb.grown hg hb.size hlow
  have spC : Spares (fun i => vB.ownBlock = some i) W wC := Spares.of_grown hg (fun k e => e)
  have hkC : Copy w.heap.size wC kv' key := spC.row hk (fun g hg' e => rows_apart hB hk (by decide) g e hg')
  have hvC : Copy w.heap.size wC vv' val := spC.row hv (fun g hg' e => rows_apart hB hv (by decide) g e hg')
  have hxC : wC.heap[xb]? = some (.cells #[sv] 35 (0, 0)) := (hbC.block _ (hlt xb hxb)).trans hx
  have hfm : (xs.take m ++ (⟨kv', vv', key, val⟩ : EntV) :: xs.drop k').flatMap EntV.two = ((xs.take m).flatMap EntV.two ++ [kv', vv']) ++ (xs.drop k').flatMap EntV.two := by simp [EntV.two]
  have hlen : (xs.take m ++ (⟨kv', vv', key, val⟩ : EntV) :: xs.drop k').length = m + 1 + (xs.drop k').length := by simp; omega
  have hst := xs_store (ys := xs.take m ++ ⟨kv', vv', key, val⟩ :: xs.drop k') (sv' := vC) hxC hxb hlt hbC (by rw [hfm, hlen]; exact hC) (fun y hy => by
    have hold : ∀ y ∈ xs, Says wC y.kv y.k ∧ Says wC y.vv y.v ∧ InS (ext S w wC) y.kv ∧ InS (ext S w wC) y.vv := fun y hy => by
      obtain ⟨s1, s2⟩ := (hE.ents.new hbC).says (Nat.le_refl _) y hy
      exact ⟨s1, s2, (hE.all y hy).1.mono (fun i hi => .inl hi), (hE.all y hy).2.mono (fun i hi => .inl hi)⟩
    rcases List.mem_append.1 hy with hy | hy
    · exact hold y (List.mem_of_mem_take hy)
    · rcases List.mem_cons.1 hy with rfl | hy
      · exact ⟨hkC.says, hvC.says, fun g hg' => .inr (hkC.lt g hg'), fun g hg' => .inr (hvC.lt g hg')⟩
      · exact hold y (List.mem_of_mem_drop hy)) (fun n e => by
    obtain ⟨a, c, e', _⟩ := hE.ents
    rw [e'] at e
    cases e)
  exact ⟨by rw [cell_of_row _ _ _ _ _ _ hxC]; rfl, by simp [World.frozen?, hxC], hst.1, by simp [EntV.ent], hst.2⟩

set_option maxHeartbeats 8000000 in
theorem xput_any (S : Nat → Prop) (xb : Nat) (xs : List EntV) (kv vv : Value) (key val : List UInt8) (w : World) (h : XS S w xb xs) (hk : Says w kv key) (hv : Says w vv val) (hs : Tri.short (key, val)) (hn : xs.length < 1000000) :
    Calls Tryd.prog 30 #[.pointer (some ⟨xb, 0, none⟩), kv, vv] w fun e w' => e = .returned (.int .i64 0) ∧ ∃ ys, XS (ext S w w') w' xb ys ∧ ys.map EntV.ent = putL (xs.map EntV.ent) (key, val) ∧ Spares (fun i => i = xb) w w' := by
  obtain ⟨⟨sv, hx, hE⟩, hxb, hlt⟩ := h
  obtain ⟨a1, c1, rfl, _⟩ := id hk
  obtain ⟨a2, c2, rfl, _⟩ := id hv
  have hs1 : (key.length : Int) ≤ 120 := by have := hs.1; simp at this; omega
  have hs2 : (val.length : Int) ≤ 1200 := by have := hs.2; simp at this; omega
  have HAT := xat_any xb _ _ xs key w hx hE.ents hk
  have hle := atK_le (xs.map EntV.ent) key
  rw [List.length_map] at hle
  have hxbz : xb < w.heap.size := block_lt hx
  obtain ⟨m, hm⟩ : ∃ m, atK (xs.map EntV.ent) key = m := ⟨_, rfl⟩
  rw [hm] at HAT hle
  have HM := hid hm
  have HE := hid hE
  have HX := hid hx
  have HLT := hid hlt
  have HXB := hid hxb
  have HF : Hid (∀ W, Below w.heap.size w W → W.heap[xb]? = some (.cells #[sv] 35 (0, 0)) ∧ Ents W.heap.size W sv xs ∧ Says W (.slice a1 key.length c1) key ∧ Says W (.slice a2 val.length c2) val) := hid (fun W hW => ⟨(hW.block _ hxbz).trans hx, hE.ents.new hW, hk.new hW, hv.new hW⟩)
  have hform := hE.form
  clear hE hx hk hv hlt hxb hm
  rcases hform with rfl | ⟨b, c, rfl⟩
  · have hx0 : xs = [] := by
      obtain ⟨a, c, e, _⟩ := HE.out.ents
      simp only [Value.slice.injEq] at e
      exact List.eq_nil_of_length_eq_zero e.2.1.symm
    subst hx0
    have hm0 : m = 0 := by simpa using hle
    subst hm0
    go_enter Tryd.func30, Tryd.ntmps30
    go_wp2_with fail
    refine HAT.mono ?_
    clear HAT
    rintro e w1 ⟨rfl, q1, rfl⟩
    have hb1 : Below w.heap.size w (w.drewN q1) := below_drewN _ w q1
    have r1 : (w.drewN q1).cell? ⟨xb, 0, none⟩ = some (.slice none 0 0) := by rw [cell_of_row _ _ _ _ _ _ (HF.out _ hb1).1]; rfl
    have HB1 := hid hb1
    clear hb1
    generalize w.drewN q1 = w1 at *
    have hz1 := HB1.out.size
    have HC1 := copied_any _ key w1 (HF.out _ HB1.out).2.2.1 (by omega)
    go_wp2_with (first
      | (at_builtin; refine wpList_append_ents _ rfl (.tmp 20) (.tmp 26) rfl w.heap.size (.slice none 0 0) 0 [] rfl (World.ownsRow_nil _ _ _ _) 0 (.slice none 0 0) [] rfl (ents_nil _ _ _ _ _ rfl (Nat.zero_le _)) (fun l c e => by cases e; rfl) (by simp) hz1 ?_))
    intro vA wA oA gA
    obtain ⟨⟨aA, cA, rfl⟩, _⟩ := row_form2 oA
    have hbA : Below w.heap.size w wA := HB1.out.grown gA hz1 (fun q hq => by cases hq)
    have hzA := hbA.size
    have HBA := hid hbA
    have HOA := hid oA
    have HC1 := copied_any _ key wA (HF.out _ hbA).2.2.1 (by omega)
    clear oA gA HB1 hbA r1
    go_wp2_with fail
    refine HC1.mono ?_
    clear HC1
    rintro e w2 ⟨kv', rfl, k2, hb2⟩
    obtain ⟨ak, ck, rfl⟩ := k2.form
    have HB2 := hid (HBA.out.trans (hb2.mono hzA))
    have HC2 := copied_any _ val w2 (HF.out _ HB2.out).2.2.2 (by omega)
    go_wp2_with fail
    refine HC2.mono ?_
    clear HC2
    rintro e w3 ⟨vv', rfl, v3, hb3⟩
    obtain ⟨av, cv, rfl⟩ := v3.form
    have hz23 := hb3.size
    have hz2 := hb2.size
    have HB3 := hid (HB2.out.trans (hb3.mono HB2.out.size))
    have HK3 := hid (k2.new hb3)
    have HV3 := hid v3
    have HO3 := hid ((Spares.of_new (S := fun _ => False) (hb2.trans (hb3.mono hb2.size))).row HOA.out (fun _ _ => id))
    clear hb2 hb3 k2 v3 HBA HB2 HOA
    obtain ⟨i0, hi, hz0, hz1', hz2'⟩ := info_parts Tryd.infoEntryZ
    go_wp2_with (first
      | (at_builtin; refine wpList_append_own _ rfl (.tmp 28) (.tmp 34) 33 rfl w.heap.size 52 i0 _ 2 48 Tryd.underlying33 hi hz0 hz1' hz2' rfl (by decide) _ _ _ rfl ((Spares.of_new (S := fun _ => False) ((Below.refl _ _).alloc (Nat.le_refl _) _)).row HO3.out (fun _ _ => id)) ⟨w3.heap.size, 0, none⟩ 1 1 [.slice ak key.length ck, .slice av val.length cv] rfl rfl ?d1 ?d2 ?d3 ?d4 ?d5 ?_))
    case d1 => have := World.news_of_block (World.alloc_heap_new w3 (.cells #[.slice ak key.length ck, .slice av val.length cv] 52)); simpa using this
    case d2 => intro u hu; simp at hu; rcases hu with rfl | rfl <;> rfl
    case d3 => unfold maxLen; omega
    case d4 => omega
    case d5 => simp; omega
    intro vB wB oB gB _
    obtain ⟨⟨aB, cB, rfl⟩, _⟩ := row_form2 oB
    have hlowA : ∀ q, (Value.slice aA 0 cA).ownBlock = some q → w.heap.size ≤ q := fun q hq => (HO3.out.lt q hq).1
    have hz3 := HB3.out.size
    have hbB : Below w.heap.size w wB := (HB3.out.alloc hz3 _).grown gB (by simp; omega) hlowA
    have spB : Spares (fun i => (Value.slice aA 0 cA).ownBlock = some i) w3 wB := (Spares.of_new ((Below.refl _ _).alloc (Nat.le_refl _) _)).andThen (Spares.of_grown (S := fun i => (Value.slice aA 0 cA).ownBlock = some i) gB (fun k e => e)) (fun i hi => .inl hi)
    have HKB : Hid (Copy w.heap.size wB (.slice ak key.length ck) key) := hid (owns_lower (spB.row HK3.out (fun g hg e => rows_apart HO3.out HK3.out (by decide) g e hg)) (fun g hg => by have h1 := (HK3.out.lt g hg).1; omega))
    have HVB : Hid (Copy w.heap.size wB (.slice av val.length cv) val) := hid (owns_lower (spB.row HV3.out (fun g hg e => rows_apart HO3.out HV3.out (by decide) g e hg)) (fun g hg => by have h1 := (HV3.out.lt g hg).1; omega))
    have HBB := hid hbB
    have HOB := hid oB
    have rB : wB.cell? ⟨xb, 0, none⟩ = some (.slice none 0 0) := by rw [cell_of_row _ _ _ _ _ _ (HF.out _ hbB).1]; rfl
    clear oB gB spB hbB hlowA HB3 HK3 HV3 HO3 hz3
    go_wp2_with fail
    go_quiet (fail)
    have HBQ := hid (HBB.out.trans (below_drewN _ wB nq))
    have HOQ : Hid ((wB.drewN nq).ownsRow w.heap.size 52 2 (.slice aB 1 cB) 1 _) := HOB
    have HKQ : Hid (Copy w.heap.size (wB.drewN nq) (.slice ak key.length ck) key) := HKB
    have HVQ : Hid (Copy w.heap.size (wB.drewN nq) (.slice av val.length cv) val) := HVB
    have rQ : (wB.drewN nq).cell? ⟨xb, 0, none⟩ = some (.slice none 0 0) := rB
    clear rB HOB HKB HVB HBB
    generalize wB.drewN nq = wQ at *
    go_wp2_with (first
      | (at_builtin; refine wpList_append_ents _ rfl (.tmp 60) (.tmp 66) rfl w.heap.size _ 1 _ rfl HOQ.out 0 (.slice none 0 0) [] rfl (ents_nil _ _ _ _ _ rfl (Nat.zero_le _)) (fun l c e => by cases e; rfl) (by simp) HBQ.out.size ?_))
    intro vC wC oC gC
    obtain ⟨⟨aC, cC, rfl⟩, _⟩ := row_form2 oC
    have HST := hid (put_end (xs := []) (m := 0) (k' := 0) HX.out HE.out HXB.out HLT.out HBQ.out (by simpa using HOQ.out) HKQ.out HVQ.out (Nat.le_refl _) oC (by simp) gC)
    have rC := HST.out.1
    have fC := HST.out.2.1
    clear oC gC
    go_wp2
    go_ret
    exact ⟨rfl, _, HST.out.2.2.1, by rw [HST.out.2.2.2.1]; rfl, HST.out.2.2.2.2⟩
  · obtain ⟨_, _, e, hc1, hc2, _⟩ := id HE.out.ents
    simp only [Value.slice.injEq] at e
    obtain ⟨rfl, _, rfl⟩ := e
    unfold maxLen at hc2
    have hmi : (m : Int) ≤ (xs.length : Int) := by omega
    have hmi0 : (0 : Int) ≤ (m : Int) := by omega
    have hmc : (m : Int) ≤ (c : Int) := by omega
    go_enter Tryd.func30, Tryd.ntmps30
    go_wp2_with fail
    refine HAT.mono ?_
    clear HAT
    rintro e w1 ⟨rfl, q1, rfl⟩
    have hb1 : Below w.heap.size w (w.drewN q1) := below_drewN _ w q1
    have r1 : (w.drewN q1).cell? ⟨xb, 0, none⟩ = some (.slice (some ⟨b, 0, none⟩) xs.length c) := by rw [cell_of_row _ _ _ _ _ _ (HF.out _ hb1).1]; rfl
    have HT1 := hid ((HF.out _ hb1).2.1.take m hle)
    have HB1 := hid hb1
    clear hb1
    generalize w.drewN q1 = w1 at *
    have hz1 := HB1.out.size
    go_wp2_with (first
      | (at_builtin; refine wpList_append_ents _ rfl (.tmp 20) (.tmp 26) rfl w.heap.size _ 0 [] rfl (World.ownsRow_nil _ _ _ _) _ _ (xs.take m) rfl HT1.out (fun l c e => by cases e) (by simp; omega) hz1 ?_))
    intro vA wA oA gA
    obtain ⟨⟨aA, cA, rfl⟩, _⟩ := row_form2 oA
    have hbA : Below w.heap.size w wA := HB1.out.grown gA hz1 (fun q hq => by cases hq)
    have hzA := hbA.size
    have HBA := hid hbA
    have HOA := hid oA
    have HC1 := copied_any _ key wA (HF.out _ hbA).2.2.1 (by omega)
    clear oA gA HT1 HB1 hbA r1
    generalize hlm : 0 + (xs.take m).length = lm at *
    have hlm' : lm ≤ xs.length := by rw [← hlm]; simp; omega
    go_wp2_with fail
    refine HC1.mono ?_
    clear HC1
    rintro e w2 ⟨kv', rfl, k2, hb2⟩
    obtain ⟨ak, ck, rfl⟩ := k2.form
    have HB2 := hid (HBA.out.trans (hb2.mono hzA))
    have HC2 := copied_any _ val w2 (HF.out _ HB2.out).2.2.2 (by omega)
    go_wp2_with fail
    refine HC2.mono ?_
    clear HC2
    rintro e w3 ⟨vv', rfl, v3, hb3⟩
    obtain ⟨av, cv, rfl⟩ := v3.form
    have hz23 := hb3.size
    have hz2 := hb2.size
    have HB3 := hid (HB2.out.trans (hb3.mono HB2.out.size))
    have HK3 := hid (k2.new hb3)
    have HV3 := hid v3
    have HO3 := hid ((Spares.of_new (S := fun _ => False) (hb2.trans (hb3.mono hb2.size))).row HOA.out (fun _ _ => id))
    clear hb2 hb3 k2 v3 HBA HB2 HOA
    obtain ⟨i0, hi, hz0, hz1', hz2'⟩ := info_parts Tryd.infoEntryZ
    go_wp2_with (first
      | (at_builtin; refine wpList_append_own _ rfl (.tmp 28) (.tmp 34) 33 rfl w.heap.size 52 i0 _ 2 48 Tryd.underlying33 hi hz0 hz1' hz2' rfl (by decide) _ _ _ rfl ((Spares.of_new (S := fun _ => False) ((Below.refl _ _).alloc (Nat.le_refl _) _)).row HO3.out (fun _ _ => id)) ⟨w3.heap.size, 0, none⟩ 1 1 [.slice ak key.length ck, .slice av val.length cv] rfl rfl ?d1 ?d2 ?d3 ?d4 ?d5 ?_))
    case d1 => have := World.news_of_block (World.alloc_heap_new w3 (.cells #[.slice ak key.length ck, .slice av val.length cv] 52)); simpa using this
    case d2 => intro u hu; simp at hu; rcases hu with rfl | rfl <;> rfl
    case d3 => unfold maxLen; omega
    case d4 => omega
    case d5 => simp; omega
    intro vB wB oB gB _
    obtain ⟨⟨aB, cB, rfl⟩, _⟩ := row_form2 oB
    have hlowA : ∀ q, (Value.slice aA m cA).ownBlock = some q → w.heap.size ≤ q := fun q hq => (HO3.out.lt q hq).1
    have hz3 := HB3.out.size
    have hbB : Below w.heap.size w wB := (HB3.out.alloc hz3 _).grown gB (by simp; omega) hlowA
    have spB : Spares (fun i => (Value.slice aA m cA).ownBlock = some i) w3 wB := (Spares.of_new ((Below.refl _ _).alloc (Nat.le_refl _) _)).andThen (Spares.of_grown (S := fun i => (Value.slice aA m cA).ownBlock = some i) gB (fun k e => e)) (fun i hi => .inl hi)
    have HKB : Hid (Copy w.heap.size wB (.slice ak key.length ck) key) := hid (owns_lower (spB.row HK3.out (fun g hg e => rows_apart HO3.out HK3.out (by decide) g e hg)) (fun g hg => by have h1 := (HK3.out.lt g hg).1; omega))
    have HVB : Hid (Copy w.heap.size wB (.slice av val.length cv) val) := hid (owns_lower (spB.row HV3.out (fun g hg e => rows_apart HO3.out HV3.out (by decide) g e hg)) (fun g hg => by have h1 := (HV3.out.lt g hg).1; omega))
    have HBB := hid hbB
    have HOB := hid oB
    have rB : wB.cell? ⟨xb, 0, none⟩ = some (.slice (some ⟨b, 0, none⟩) xs.length c) := by rw [cell_of_row _ _ _ _ _ _ (HF.out _ hbB).1]; rfl
    clear oB gB spB hbB hlowA HB3 HK3 HV3 HO3 hz3
    by_cases hmn : m < xs.length
    · obtain ⟨b', off', la, lc, ua, uc, lb, ub, hbb, hb', hy, d0, d1, t1, t2⟩ := (HF.out _ HBB.out).2.1.at m hmn
      simp only [Option.some.injEq, Addr.mk.injEq, and_true] at hbb
      obtain ⟨rfl, rfl⟩ := hbb
      have hye := ent_at (rfl : xs.map EntV.ent = _) hy
      have hmi2 : (m : Int) < (xs.length : Int) := by omega
      have hmd : decide ((m : Int) < (xs.length : Int)) = true := by simpa using hmi2
      have e1 := fun nq => str4 (t1.below (below_drewN _ wB nq))
      have e2 := fun nq => str4 ((HF.out _ HBB.out).2.2.1.new (below_drewN _ wB nq))
      rw [Nat.zero_add] at d0
      by_cases hkk : lb = key
      · have HPL : Hid (putL (xs.map EntV.ent) (key, val) = (xs.take m).map EntV.ent ++ (key, val) :: (xs.drop (m + 1)).map EntV.ent) := hid (by
          unfold putL
          simp only [HM.out]
          rw [hye, Option.map_some, if_pos (by rw [hkk]), List.map_take, List.map_drop])
        have hse : str8 lb = str8 key := by rw [hkk]
        simp only [hse] at e1
        clear t1 t2 d1 hy hye hkk hse
        go_wp2_with fail
        go_quiet (fail)
        clear e1 e2 d0
        have HBQ := hid (HBB.out.trans (below_drewN _ wB nq))
        have HOQ : Hid ((wB.drewN nq).ownsRow w.heap.size 52 2 (.slice aB (m + 1) cB) (m + 1) _) := HOB
        have HKQ : Hid (Copy w.heap.size (wB.drewN nq) (.slice ak key.length ck) key) := HKB
        have HVQ : Hid (Copy w.heap.size (wB.drewN nq) (.slice av val.length cv) val) := HVB
        have rQ : (wB.drewN nq).cell? ⟨xb, 0, none⟩ = some (.slice (some ⟨b, 0, none⟩) xs.length c) := rB
        clear rB HOB HKB HVB HBB
        generalize wB.drewN nq = wQ at *
        have hm1 : ((m : Int) + 1) ≤ (xs.length : Int) := by omega
        have hm2 : (0 : Int) ≤ (m : Int) + 1 := by omega
        have hm3 : ((m : Int) + 1) ≤ (c : Int) := by omega
        by_cases hck : c = m + 1
        · have hck' := hck.symm
          clear hck
          subst hck'
          go_wp2_with (first
            | (at_builtin; refine wpList_append_ents _ rfl (.tmp 60) (.tmp 66) rfl w.heap.size _ (m + 1) _ rfl HOQ.out wQ.heap.size _ (xs.drop (m + 1)) rfl ?src ?nil (by simp; omega) HBQ.out.size ?_))
          case src =>
            rw [show xs.drop (m + 1) = [] from List.drop_eq_nil_of_le (by omega)]
            refine ents_nil _ _ _ _ _ ?_ ?_
            · first | rfl | omega
            · first | (unfold maxLen; omega) | exact Nat.zero_le _
          case nil => intro l c e; first | cases e | simp [Act.eval] at e
          intro vC wC oC gC
          obtain ⟨⟨aC, cC, rfl⟩, _⟩ := row_form2 oC
          have HST := hid (put_end (k' := m + 1) HX.out HE.out HXB.out HLT.out HBQ.out HOQ.out HKQ.out HVQ.out hle oC (by simp) gC)
          have rC := HST.out.1
          have fC := HST.out.2.1
          clear oC gC
          go_wp2
          go_ret
          exact ⟨rfl, _, HST.out.2.2.1, by rw [HST.out.2.2.2.1, HPL.out], HST.out.2.2.2.2⟩
        · have hck2 : ¬ (c : Int) = (m : Int) + 1 := by omega
          by_cases hin : m + 1 < xs.length
          · go_wp2_with (first
              | (at_builtin; refine wpList_append_ents _ rfl (.tmp 60) (.tmp 66) rfl w.heap.size _ (m + 1) _ rfl HOQ.out wQ.heap.size _ (xs.drop (m + 1)) rfl ?src ?nil (by simp; omega) HBQ.out.size ?_))
            case src =>
              have hd := (HF.out _ HBQ.out).2.1.drop (m + 1) (by omega)
              rw [Nat.zero_add] at hd
              exact hd
            case nil => intro l c e; first | cases e | simp [Act.eval] at e
            intro vC wC oC gC
            obtain ⟨⟨aC, cC, rfl⟩, _⟩ := row_form2 oC
            have HST := hid (put_end (k' := m + 1) HX.out HE.out HXB.out HLT.out HBQ.out HOQ.out HKQ.out HVQ.out hle oC (by simp) gC)
            have rC := HST.out.1
            have fC := HST.out.2.1
            clear oC gC
            go_wp2
            go_ret
            exact ⟨rfl, _, HST.out.2.2.1, by rw [HST.out.2.2.2.1, HPL.out], HST.out.2.2.2.2⟩
          · go_wp2_with (first
              | (at_builtin; refine wpList_append_ents _ rfl (.tmp 60) (.tmp 66) rfl w.heap.size _ (m + 1) _ rfl HOQ.out wQ.heap.size _ (xs.drop (m + 1)) rfl ?src ?nil (by simp; omega) HBQ.out.size ?_))
            case src =>
              rw [show xs.drop (m + 1) = [] from List.drop_eq_nil_of_le (by omega)]
              refine ents_nil _ _ _ _ _ ?_ ?_
              · first | rfl | omega
              · first | (unfold maxLen; omega) | exact Nat.zero_le _
            case nil => intro l c e; first | cases e | simp [Act.eval] at e
            intro vC wC oC gC
            obtain ⟨⟨aC, cC, rfl⟩, _⟩ := row_form2 oC
            have HST := hid (put_end (k' := m + 1) HX.out HE.out HXB.out HLT.out HBQ.out HOQ.out HKQ.out HVQ.out hle oC (by simp) gC)
            have rC := HST.out.1
            have fC := HST.out.2.1
            clear oC gC
            go_wp2
            go_ret
            exact ⟨rfl, _, HST.out.2.2.1, by rw [HST.out.2.2.2.1, HPL.out], HST.out.2.2.2.2⟩
      · have HPL : Hid (putL (xs.map EntV.ent) (key, val) = (xs.take m).map EntV.ent ++ (key, val) :: (xs.drop m).map EntV.ent) := hid (by
          unfold putL
          simp only [HM.out]
          rw [hye, Option.map_some, if_neg (by simpa using hkk), List.map_take, List.map_drop])
        have hne : ¬ (str8 lb).toList = (str8 key).toList := by rw [str8_toList, str8_toList]; exact hkk
        clear t1 t2 d1 hy hye hkk
        generalize str8 lb = S1 at *
        generalize str8 key = S2 at *
        have hne1 : (S1.toList == S2.toList) = false := by simpa using hne
        have hne2 : decide (S1.toList = S2.toList) = false := by simpa using hne
        go_wp2_with fail
        go_quiet (fail)
        clear e1 e2 d0 hne hne1 hne2
        have HBQ := hid (HBB.out.trans (below_drewN _ wB nq))
        have HOQ : Hid ((wB.drewN nq).ownsRow w.heap.size 52 2 (.slice aB (m + 1) cB) (m + 1) _) := HOB
        have HKQ : Hid (Copy w.heap.size (wB.drewN nq) (.slice ak key.length ck) key) := HKB
        have HVQ : Hid (Copy w.heap.size (wB.drewN nq) (.slice av val.length cv) val) := HVB
        have rQ : (wB.drewN nq).cell? ⟨xb, 0, none⟩ = some (.slice (some ⟨b, 0, none⟩) xs.length c) := rB
        clear rB HOB HKB HVB HBB
        generalize wB.drewN nq = wQ at *
        have hm1 : ((m : Int)) ≤ (xs.length : Int) := by omega
        have hm2 : (0 : Int) ≤ (m : Int) := by omega
        have hm3 : ((m : Int)) ≤ (c : Int) := by omega
        have hck : ¬ c = m := by omega
        have hck2 : ¬ (c : Int) = (m : Int) := by omega
        go_wp2_with (first
          | (at_builtin; refine wpList_append_ents _ rfl (.tmp 60) (.tmp 66) rfl w.heap.size _ (m + 1) _ rfl HOQ.out wQ.heap.size _ (xs.drop (m)) rfl ?src ?nil (by simp; omega) HBQ.out.size ?_))
        case src =>
          have hd := (HF.out _ HBQ.out).2.1.drop (m) (by omega)
          rw [Nat.zero_add] at hd
          exact hd
        case nil => intro l c e; first | cases e | simp [Act.eval] at e
        intro vC wC oC gC
        obtain ⟨⟨aC, cC, rfl⟩, _⟩ := row_form2 oC
        have HST := hid (put_end (k' := m) HX.out HE.out HXB.out HLT.out HBQ.out HOQ.out HKQ.out HVQ.out hle oC (by simp) gC)
        have rC := HST.out.1
        have fC := HST.out.2.1
        clear oC gC
        go_wp2
        go_ret
        exact ⟨rfl, _, HST.out.2.2.1, by rw [HST.out.2.2.2.1, HPL.out], HST.out.2.2.2.2⟩
    · have HPL : Hid (putL (xs.map EntV.ent) (key, val) = (xs.take m).map EntV.ent ++ (key, val) :: (xs.drop m).map EntV.ent) := hid (by
        unfold putL
        simp only [HM.out]
        rw [List.getElem?_eq_none (by simp; omega), Option.map_none, if_neg (by simp), List.map_take, List.map_drop])
      have hmi2 : ¬ (m : Int) < (xs.length : Int) := by omega
      have hmi3 : (xs.length : Int) ≤ (m : Int) := by omega
      have hmd : decide ((m : Int) < (xs.length : Int)) = false := by simpa using hmi2
      go_wp2_with fail
      go_quiet (fail)
      have HBQ := hid (HBB.out.trans (below_drewN _ wB nq))
      have HOQ : Hid ((wB.drewN nq).ownsRow w.heap.size 52 2 (.slice aB (m + 1) cB) (m + 1) _) := HOB
      have HKQ : Hid (Copy w.heap.size (wB.drewN nq) (.slice ak key.length ck) key) := HKB
      have HVQ : Hid (Copy w.heap.size (wB.drewN nq) (.slice av val.length cv) val) := HVB
      have rQ : (wB.drewN nq).cell? ⟨xb, 0, none⟩ = some (.slice (some ⟨b, 0, none⟩) xs.length c) := rB
      clear rB HOB HKB HVB HBB
      generalize wB.drewN nq = wQ at *
      have hm1 : ((m : Int)) ≤ (xs.length : Int) := by omega
      have hm2 : (0 : Int) ≤ (m : Int) := by omega
      have hm3 : ((m : Int)) ≤ (c : Int) := by omega
      by_cases hck : c = m
      · have hck' := hck.symm
        clear hck
        subst hck'
        go_wp2_with (first
          | (at_builtin; refine wpList_append_ents _ rfl (.tmp 60) (.tmp 66) rfl w.heap.size _ (m + 1) _ rfl HOQ.out wQ.heap.size _ (xs.drop (m)) rfl ?src ?nil (by simp; omega) HBQ.out.size ?_))
        case src =>
          rw [show xs.drop (m) = [] from List.drop_eq_nil_of_le (by omega)]
          refine ents_nil _ _ _ _ _ ?_ ?_
          · first | rfl | omega
          · first | (unfold maxLen; omega) | exact Nat.zero_le _
        case nil => intro l c e; first | cases e | simp [Act.eval] at e
        intro vC wC oC gC
        obtain ⟨⟨aC, cC, rfl⟩, _⟩ := row_form2 oC
        have HST := hid (put_end (k' := m) HX.out HE.out HXB.out HLT.out HBQ.out HOQ.out HKQ.out HVQ.out hle oC (by simp) gC)
        have rC := HST.out.1
        have fC := HST.out.2.1
        clear oC gC
        go_wp2
        go_ret
        exact ⟨rfl, _, HST.out.2.2.1, by rw [HST.out.2.2.2.1, HPL.out], HST.out.2.2.2.2⟩
      · have hck2 : ¬ (c : Int) = (m : Int) := by omega
        go_wp2_with (first
          | (at_builtin; refine wpList_append_ents _ rfl (.tmp 60) (.tmp 66) rfl w.heap.size _ (m + 1) _ rfl HOQ.out wQ.heap.size _ (xs.drop (m)) rfl ?src ?nil (by simp; omega) HBQ.out.size ?_))
        case src =>
          rw [show xs.drop (m) = [] from List.drop_eq_nil_of_le (by omega)]
          refine ents_nil _ _ _ _ _ ?_ ?_
          · first | rfl | omega
          · first | (unfold maxLen; omega) | exact Nat.zero_le _
        case nil => intro l c e; first | cases e | simp [Act.eval] at e
        intro vC wC oC gC
        obtain ⟨⟨aC, cC, rfl⟩, _⟩ := row_form2 oC
        have HST := hid (put_end (k' := m) HX.out HE.out HXB.out HLT.out HBQ.out HOQ.out HKQ.out HVQ.out hle oC (by simp) gC)
        have rC := HST.out.1
        have fC := HST.out.2.1
        clear oC gC
        go_wp2
        go_ret
        exact ⟨rfl, _, HST.out.2.2.1, by rw [HST.out.2.2.2.1, HPL.out], HST.out.2.2.2.2⟩
end Go.Proofs.YthkeofinamedfaaDoor
