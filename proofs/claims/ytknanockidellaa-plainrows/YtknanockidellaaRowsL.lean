/- For every list of slices of bytes and every slice of bytes, PlainRows returns true. -/
import Derived.Test.YtknanockidellaaRefTR
namespace Go.Proofs.Ytknanockidellaa
open Go.RowKit
set_option linter.unusedVariables false

theorem trows_len (bs : List UInt8) : ∀ n i, (trows bs n i).2.1.length ≤ n
  | 0, i => by simp [trows]
  | n + 1, i => by
    rw [trows]
    split
    · simp
    · split
      · simp
      · have := trows_len bs n (i + (tblob (bs.drop i)).2.2)
        simp
        omega

theorem trow_len (bs : List UInt8) : (trow bs).2.1.length ≤ 4096 := by
  rw [trow]
  split
  · simp
  · rename_i h
    have h1 := trows_len bs (tcount bs 4096).1 4
    have h2 := (tcount_ok bs 4096 (by simpa using h)).2.2
    omega

theorem RowsOwn.apart' {w : World} {B : Nat} {vs : List Value} {rows : List (List UInt8)} (h : RowsOwn w B vs rows) : Apart vs := by
  intro i j u v g hu hv hij hg hv2
  exact h.apart i j u v hu hv hij (by rw [hg, hv2])

theorem RowsOwn.marked {w : World} {B : Nat} {vs : List Value} {rows : List (List UInt8)} (h : RowsOwn w B vs rows) : Marked B w vs 0 := by
  intro j v hv
  have hj : j < rows.length := by rw [← h.len]; exact (List.getElem?_eq_some_iff.1 hv).1
  obtain ⟨ys, hf⟩ := full_of_owns (h.own j v rows[j] hv (List.getElem?_eq_getElem hj)).1
  exact ⟨ys, hf, fun h => by omega⟩

theorem RowsOwn.one {w : World} {B : Nat} {vs : List Value} {rows : List (List UInt8)} (h : RowsOwn w B vs rows) : ∀ u ∈ vs, u.oneCell' = true := by
  intro u hu
  obtain ⟨j, hj, rfl⟩ := List.getElem_of_mem hu
  obtain ⟨g, cap, e⟩ := (h.own j _ (rows[j]'(by rw [← h.len]; exact hj)) (List.getElem?_eq_getElem hj) (List.getElem?_eq_getElem _)).2
  rw [e]
  rfl

theorem marked_snoc {B : Nat} {w : World} {x : Value} {xs : List Value} {vs : List Value} (h : Marked B w vs 0) (hx : Full B w x xs) : Marked B w (vs ++ [x]) 0 := by
  intro j v hv
  rcases Nat.lt_or_ge j vs.length with hj | hj
  · rw [List.getElem?_append_left hj] at hv
    obtain ⟨ys, hf, _⟩ := h j v hv
    exact ⟨ys, hf, fun h => by omega⟩
  · rw [List.getElem?_append_right hj] at hv
    cases e : j - vs.length with
    | zero => rw [e] at hv; simp at hv; subst hv; exact ⟨xs, hx, fun h => by omega⟩
    | succ m => rw [e] at hv; simp at hv

theorem Marked.below {B : Nat} {w w' : World} {vs : List Value} (h : Marked B w vs 0) (hb : Below w.heap.size w w') : Marked B w' vs 0 := by
  intro j v hv
  obtain ⟨ys, hf, _⟩ := h j v hv
  exact ⟨ys, hf.below hb, fun h => by omega⟩

theorem Marked.mono {B B' : Nat} {w : World} {vs : List Value} (h : Marked B w vs 0) (hB : B' ≤ B) : Marked B' w vs 0 := by
  intro j v hv
  obtain ⟨ys, hf, _⟩ := h j v hv
  exact ⟨ys, hf.mono hB, fun h => by omega⟩

theorem apart_snoc {x : Value} {vs : List Value} (h : Apart vs) (hx : ∀ g, x.ownBlock = some g → ∀ v ∈ vs, v.ownBlock ≠ some g) : Apart (vs ++ [x]) := by
  have key : ∀ (i : Nat) (u : Value), (vs ++ [x])[i]? = some u → vs[i]? = some u ∨ (i = vs.length ∧ u = x) := by
    intro i u hu
    rcases Nat.lt_or_ge i vs.length with hi | hi
    · rw [List.getElem?_append_left hi] at hu; exact .inl hu
    · rw [List.getElem?_append_right hi] at hu
      cases e : i - vs.length with
      | zero => rw [e] at hu; simp at hu; exact .inr ⟨by omega, hu.symm⟩
      | succ m => rw [e] at hu; simp at hu
  intro i j u v g hu hv hij hg hv2
  rcases key i u hu with h1 | ⟨h1, rfl⟩ <;> rcases key j v hv with h2 | ⟨h2, rfl⟩
  · exact h i j u v g h1 h2 hij hg hv2
  · exact hx g hv2 u (List.mem_of_getElem? h1) hg
  · exact hx g hg v (List.mem_of_getElem? h2) hv2
  · omega

/-- append(dst, src...) where src is a list of slices that is owned: nil or not. -/
theorem wpList_append_rows {P : Program} (w : World) {ops : Array Oper} {rest : List Oper} {o : Oper} {a : Act} {Q : Exit → Act → World → Prop} (hgd : o.guard = none) (s x : Operand) (t : TypeId)
    (ho : o.op = .call { callee := .builtin .append, args := #[s, x], argTypes := #[t, t] })
    (base : Nat) (e : TypeId) (i : TypeInfo) (ht : P.underlying t = some (.slice e)) (hi : P.info? e = some i) (hz : i.zero = some (.slice none 0 0))
    (hsize : i.size = 1) (hby : i.bytes = 24)
    (v : Value) (n : Nat) (xs : List Value) (hs : a.eval s = v) (hown : w.ownsRow base e 1 v n xs)
    (B : Nat) (vx : Value) (m : Nat) (vs : List Value) (hx : a.eval x = vx) (hsrc : w.ownsRow B e 1 vx m vs) (h1 : ∀ u ∈ vs, u.oneCell' = true)
    (hbytes : (n + m) * 24 ≤ 140737488355328) (hbase : base ≤ w.heap.size)
    (h : ∀ v' w', w'.ownsRow base e 1 v' (n + m) (xs ++ vs) → w.grownBy w' v.ownBlock → (v' = .slice none 0 0 → v = .slice none 0 0) → wpList P ops Q rest (a.put o.dst v') w') : wpList P ops Q (o :: rest) a w := by
  have hl := hsrc.1
  rcases hsrc.2 with ⟨rfl, hm⟩ | ⟨g, cap, cur, rfl, hb, hg, hnc, hcm, hcs, htk⟩
  · subst hm
    have hv : vs = [] := List.eq_nil_of_length_eq_zero (by omega)
    subst hv
    refine wpList_append_own_none hgd s x t ho base e i 1 ht hi v n xs hs hown hx ?_
    exact h v w (by simpa using hown) (World.grownBy.refl w _) id
  · refine wpList_append_own w hgd s x t ho base e i (.slice none 0 0) 1 24 ht hi hz hsize hby rfl (by decide) v n xs hs hown ⟨g, 0, none⟩ m cap vs hx hl (hsrc.cells (g := g) rfl) h1 (by unfold maxLen; omega) hbytes hbase ?_
    intro v' w' ho' hg' hnil
    exact h v' w' ho' hg' fun e => (hnil.1 e).1

theorem owned_at (B C gr cc n : Nat) (vs : List Value) (w : World) (hn : vs.length = n) (hBC : B ≤ C) (hrows : w.ownsRow C 22 1 (.slice (some ⟨gr, 0, none⟩) n cc) n vs) (hB : B ≤ w.heap.size) (hm : Marked B w vs 0) (ha : Apart vs) (hlen : n ≤ 100000) :
    Calls Try.prog 20 #[.slice (some ⟨gr, 0, none⟩) n cc] w fun e w' => e = .returned (.bool true) ∧ Below B w w' := by
  subst hn
  refine owned_any B gr cc vs w hB ?_ hm ha hlen
  refine ⟨hrows.1, ?_⟩
  rcases hrows.2 with h0 | ⟨g, cap, cur, e, hg, r⟩
  · exact .inl h0
  · exact .inr ⟨g, cap, cur, e, by omega, r⟩

set_option maxRecDepth 100000 in
set_option maxHeartbeats 4000000 in
theorem rows_law (vl : Value) (rows : List (List UInt8)) (vb : Value) (bs : List UInt8) (w : World) (hr : Lists w.heap.size w vl rows) (hb : Shows w.heap.size w vb bs) (hlb : bs.length ≤ 140737488351232) :
    Calls Try.prog 6 #[vl, vb] w fun e w' => e = .returned (.bool true) ∧ Below w.heap.size w w' := by
  obtain ⟨i0, hi, hz0, hz1, hz2⟩ := info_parts Try.infoBytes
  go_enter Try.func6, Try.ntmps6
  go_wp2_with fail
  refine (small_any w).mono ?_
  rintro e w1 ⟨rfl, hb1⟩
  have hs1 := hb1.size
  go_wp2_with fail
  refine (lent_any w.heap.size vb bs w1 hs1 (hb.below hb1) hlb).mono ?_
  rintro e w2 ⟨v2, rfl, hL2, hbel2⟩
  have hs2 := hbel2.size
  have hb2 := hb1.trans (hbel2.mono hs1)
  go_wp2_with fail
  refine (row_any w.heap.size vl rows w2 hb2.size (hr.below hb2)).mono ?_
  rintro e w3 ⟨v3, rfl, hown3, hbel3⟩
  have hs3 := hbel3.size
  have hb3 := hb2.trans (hbel3.mono hb2.size)
  have hL23 := hL2.below hbel3
  go_wp2_with fail
  refine (takeRow_any w3.heap.size v2 bs w3 (hL23.shows (by unfold maxLen; omega)) (Nat.le_refl _)).mono ?_
  rintro e w4 ⟨v4, rfl, ⟨vs4, hown4, hrows4⟩, hbel4⟩
  have hs4 := hbel4.size
  have hb4 := hb3.trans (hbel4.mono hb3.size)
  have hlt4 := hrows4.lt
  have HAP : Hid (Apart (v3 :: vs4 ++ [v2])) :=
    apart_snoc (apart_cons hrows4.apart' (fun g hg v hv e => by
      have h1 := (hown3.lt g hg).2
      have h2 := (hlt4 v hv g e).1
      omega)) (fun g hg v hv e => by
      have h1 := (hL2.lt g hg).2
      rcases List.mem_cons.1 hv with rfl | hv
      · have h2 := (hown3.lt g e).1
        omega
      · have h2 := (hlt4 v hv g e).1
        omega)
  have HX := hid (ownsRow_below hown3 hbel4)
  have H2 := hid (hL23.below hbel4)
  have HO4 := hid hown4
  have HR4 := hid hrows4
  have hlen4 : vs4.length ≤ 4096 := by rw [hrows4.len]; exact trow_len bs
  clear hL2 hL23 hown3 hown4 hrows4 hbel2 hbel3 hbel4 hb1 hb2 hb3 hlt4
  go_wp2_with fail
  refine (refRow_any w.heap.size vl rows w4 hb4.size (hr.below hb4)).mono ?_
  rintro e w5 ⟨v5, rfl, hown5, hbel5⟩
  have hs5 := hbel5.size
  have hb5 := hb4.trans (hbel5.mono hb4.size)
  go_wp2_with fail
  refine (refTakeRow_any w.heap.size vb bs w5 (hb.below hb5) hb5.size).mono ?_
  rintro e w6 ⟨v6, rfl, hrows6, hbel6⟩
  have hs6 := hbel6.size
  have hb6 := hb5.trans (hbel6.mono hb5.size)
  have hb46 := hbel5.trans (hbel6.mono hs5)
  have s3 := strs (shows_of_owns (ownsRow_below HX.out hb46)).2
  have s5 := strs (shows_of_owns (ownsRow_below hown5 hbel6)).2
  have hli4 : Lists w6.heap.size w6 v4 (trow bs).2.1 := lists_of_rowsAt ⟨vs4, ownsRow_below HO4.out hb46, HR4.out.below hb46⟩
  have HS := hid (sameRows_any w6.heap.size w6.heap.size v4 v6 (trow bs).2.1 w6 hli4 (lists_of_rowsAt hrows6))
  clear hown5 hrows6 hbel5 hbel6 hb4 hb5 hli4
  go_wp2_with fail
  refine (kept_any _ w.heap.size v2 vb bs w6 (H2.out.below hb46) (hb.below hb6) hlb).mono ?_
  rintro e w7 ⟨rfl, rfl⟩
  go_wp2_with fail
  refine HS.out.mono ?_
  rintro e w8 ⟨rfl, hbel8⟩
  have hs8 := hbel8.size
  have hb8 := hb6.trans (hbel8.mono hb6.size)
  have hb48 := hb46.trans (hbel8.mono hb46.size)
  have HX8 := hid (ownsRow_below HX.out hb48)
  have H28 := hid (H2.out.below hb48)
  have HO8 := hid (ownsRow_below HO4.out hb48)
  have HR8 := hid (HR4.out.below hb48)
  clear HS HX H2 HO4 HR4 s3 s5 hb46 hbel8 hb6
  obtain ⟨a3, c3, rfl⟩ := own_form HX8.out
  obtain ⟨g2, rfl⟩ : ∃ g, v2 = .slice (some ⟨g, 0, none⟩) bs.length (bs.length + 1) := by
    obtain ⟨g, e, _⟩ := H28.out
    exact ⟨g, e⟩
  have HRL := hid HR8.out.len
  generalize trow bs = T at *
  generalize rowOf rows = R at *
  generalize R.2.length = lr at *
  have hlm : T.2.1.length = vs4.length := HRL.out.symm
  rw [hlm] at HO8
  clear HRL hlm
  have hone := HR8.out.one
  have HONE := hid hone
  have h31 := World.ownsRow_lit (base := w8.heap.size) (e := 22) (size := 1) w8 #[.slice a3 lr c3] 1 (Nat.le_refl _) (by unfold maxLen; omega) rfl
  have HL1 := hid h31
  clear hone h31
  go_wp2_with (first
    | (at_builtin; refine wpList_append_rows _ rfl (.tmp 59) (.tmp 60) 31 rfl w8.heap.size 22 i0 Try.underlying31 hi hz0 hz1 hz2 _ 1 [.slice a3 lr c3] rfl HL1.out w3.heap.size _ vs4.length vs4 rfl (HO8.out.alloc _) HONE.out (by omega) (by simp) ?_; intro vA wA hownA hgA _)
    | (at_builtin; refine wpList_append_own _ rfl (.tmp 61) (.tmp 63) 31 rfl w8.heap.size 22 i0 (.slice none 0 0) 1 24 Try.underlying31 hi hz0 hz1 hz2 rfl (by decide) _ _ _ rfl (hownA.alloc _) ⟨wA.heap.size, 0, none⟩ 1 1 [.slice (some ⟨g2, 0, none⟩) bs.length (bs.length + 1)] rfl rfl (one_cell _ _ _) (by intro u hu; simp at hu; subst hu; rfl) (by unfold maxLen; omega) (by omega) (by have := hgA.size; simp at this ⊢; omega) ?_; intro vB wB hownB hgB _)
    | fail)
  have hbA : Below w8.heap.size w8 wA := ((Below.refl _ _).alloc (Nat.le_refl _) _).grown hgA (by simp) (fun q hq => by have hq' : some w8.heap.size = some q := hq; cases hq'; exact Nat.le_refl _)
  have hbB : Below w8.heap.size w8 wB := (hbA.alloc hbA.size _).grown hgB (by have := hbA.size; simp; omega) (fun q hq => (hownA.lt q hq).1)
  have hsB := hbB.size
  have hbw := hb8.trans (hbB.mono hb8.size)
  obtain ⟨xs3, f3⟩ := full_of_owns HX8.out
  obtain ⟨xs2, f2⟩ := H28.out.full
  have q3 := (f3.below hbB).mono (show w.heap.size ≤ w2.heap.size by omega)
  have q2 := (f2.below hbB).mono (show w.heap.size ≤ w1.heap.size by omega)
  have q4 := (HR8.out.marked.below hbB).mono (show w.heap.size ≤ w3.heap.size by omega)
  have hmk := marked_snoc (marked_cons q3 q4) q2
  obtain ⟨gr, cc, rfl⟩ : ∃ g c, vB = .slice (some ⟨g, 0, none⟩) (1 + vs4.length + 1) c := by
    rcases hownB.2 with ⟨e, h0⟩ | ⟨g, cap, _, e, _⟩
    · omega
    · exact ⟨_, _, e⟩
  have HOW := hid (owned_at w.heap.size w8.heap.size gr cc (1 + vs4.length + 1) _ wB (by simp; omega) (by omega) hownB (by omega) (by simpa using hmk) (by simpa using HAP.out) (by omega))
  have hfin : Below w.heap.size w wB := hbw
  clear hmk HAP q2 q3 q4 f2 f3 hownA hownB hgA hgB hbA hbB HX8 H28 HO8 HR8 HONE HL1
  refine HOW.out.mono ?_
  rintro e wo ⟨rfl, hbo⟩
  have hfin2 := hfin.trans hbo
  clear HOW hbo hfin
  go_wp2
  go_ret
  exact ⟨rfl, hfin2⟩
end Go.Proofs.Ytknanockidellaa
