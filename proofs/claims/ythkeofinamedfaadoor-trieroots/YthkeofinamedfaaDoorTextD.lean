/- Contracts of digest.Text and digest.Of. -/
import Derived.Test.YthkeofinamedfaaDoorRaw
import Derived.Test.YthkeofinamedfaaDoorRow
import Derived.Laws.IdiomStrings
namespace Go.Proofs.YthkeofinamedfaaDoor
open Go.RowKit
set_option linter.unusedVariables false
set_option maxRecDepth 20000

theorem Tryd.infoRow : (Tryd.prog.info? 28).map (fun i => (i.zero, i.size, i.bytes)) = some (some (.slice none 0 0), 1, 24) := by kernel_rfl

/-- The cells of a slice of slices. -/
theorem Lists.cells {B : Nat} {w : World} {a : Option Addr} {l c : Nat} {rows : List (List UInt8)} (h : Lists B w (.slice a l c) rows) :
    ∃ vs : List Value, vs.length = rows.length ∧ l = rows.length ∧ (∀ u ∈ vs, u.oneCell' = true) ∧ (∀ (j : Nat) (u : Value) (r : List UInt8), vs[j]? = some u → rows[j]? = some r → Shows B w u r) ∧
      (a = none → rows = []) ∧ (∀ ad, a = some ad → ∀ (j : Nat) (u : Value), vs[j]? = some u → w.cell? (ad.add j) = some u) := by
  obtain ⟨a', c', vs, hv, h1, h2, h3, h4, h5⟩ := h
  simp only [Value.slice.injEq] at hv
  obtain ⟨rfl, hl, rfl⟩ := hv
  refine ⟨vs, h3, hl, fun u hu => ?_, h5, fun hn => ?_, fun ad had j u hu => ?_⟩
  · obtain ⟨j, hj, rfl⟩ := List.getElem_of_mem hu
    obtain ⟨x, y, e, _⟩ := h5 j vs[j] (rows[j]'(by omega)) (List.getElem?_eq_getElem _) (List.getElem?_eq_getElem _)
    rw [e]
    rfl
  · rcases Classical.em (rows = []) with h0 | h0
    · exact h0
    · obtain ⟨b, off, e, _⟩ := h4 h0
      rw [hn] at e
      cases e
  · have hj : j < vs.length := (List.getElem?_eq_some_iff.1 hu).1
    obtain ⟨b, off, e, _, hc⟩ := h4 (by intro e; rw [e] at h3; simp at h3; simp [h3] at hj)
    rw [had] at e
    simp only [Option.some.injEq] at e
    subst e
    have e2 : (⟨b, off, none⟩ : Addr).add j = ⟨b, off + j, none⟩ := by unfold Addr.add; split <;> simp_all
    rw [e2]
    exact hc j u hu

/-- append(dst, parts...): dst the call's own, parts whatever is listed. -/
theorem wpList_append_lists {P : Program} (w : World) {ops : Array Oper} {rest : List Oper} {o : Oper} {a : Act} {Q : Exit → Act → World → Prop} (hgd : o.guard = none) (s x : Operand) (t : TypeId)
    (ho : o.op = .call { callee := .builtin .append, args := #[s, x], argTypes := #[t, t] })
    (base : Nat) (e : TypeId) (i : TypeInfo) (ht : P.underlying t = some (.slice e)) (hi : P.info? e = some i) (hz : i.zero = some (.slice none 0 0))
    (hsize : i.size = 1) (hby : i.bytes = 24)
    (v : Value) (n : Nat) (xs : List Value) (hs : a.eval s = v) (hown : w.ownsRow base e 1 v n xs)
    (B : Nat) (vx : Value) (rows : List (List UInt8)) (hx : a.eval x = vx) (hL : Lists B w vx rows) (hnl : ∀ l c, vx = .slice none l c → c = 0)
    (hbytes : (n + rows.length) * 24 ≤ 140737488355328) (hbase : base ≤ w.heap.size)
    (h : ∀ v' w' vs, vs.length = rows.length → (∀ (j : Nat) (u : Value) (r : List UInt8), vs[j]? = some u → rows[j]? = some r → Shows B w u r) → w'.ownsRow base e 1 v' (n + rows.length) (xs ++ vs) → w.grownBy w' v.ownBlock → wpList P ops Q rest (a.put o.dst v') w') : wpList P ops Q (o :: rest) a w := by
  have hL0 := hL
  obtain ⟨ao, c, _, rfl, _⟩ := hL
  obtain ⟨vs, hvl, _, h1, hsh, hn, hc⟩ := hL0.cells
  cases ao with
  | none =>
    have h0 := hn rfl
    subst h0
    have hv : vs = [] := List.eq_nil_of_length_eq_zero hvl
    subst hv
    obtain rfl := hnl _ _ rfl
    exact wpList_append_own_none hgd s x t ho base e i 1 ht hi v n xs hs hown hx (h v w [] rfl (fun j u r hu => by simp at hu) (by simpa using hown) (World.grownBy.refl w _))
  | some ad =>
    refine wpList_append_own w hgd s x t ho base e i (.slice none 0 0) 1 24 ht hi hz hsize hby rfl (by decide) v n xs hs hown ad rows.length c vs hx (by omega) (hc ad rfl) h1 (by unfold maxLen; omega) hbytes hbase ?_
    intro v' w' ho' hg' hnil
    exact h v' w' vs hvl hsh ho' hg'

/-- Bytes of a string, made. -/
theorem bytes_new (s : ByteArray) (hm : s.size ≤ maxLen) (u : World) : ∃ c wn, (convert 9 28 (.string s)).run Tryd.prog u = .ok (.slice (some ⟨u.heap.size, 0, none⟩) s.size c) wn ∧
    Shows (u.heap.size + 1) wn (.slice (some ⟨u.heap.size, 0, none⟩) s.size c) s.data.toList ∧ Below u.heap.size u wn ∧ wn.heap.size = u.heap.size + 1 ∧ ∃ cs fr, wn.heap[u.heap.size]? = some (.cells cs 5 fr) := by
  refine ⟨_, _, run_bytes_of_string (P := Tryd.prog) u 9 28 5 s Tryd.underlying9 Tryd.underlying28 Tryd.underlying5, ?_, ((Below.refl _ _).drew).alloc (Nat.le_refl _) _, by show (u.heap.push _).size = _; simp, _, _, heap_alloc_new u.drew _⟩
  have hsz : s.data.toList.length = s.size := by rw [Array.length_toList]; rfl
  refine ⟨_, _, by rw [hsz], by rw [hsz]; exact grownCap_ge _ _ _ _, grownCap_le_maxLen _ _ _ _ hm, (fun e => by cases e), fun _ => ⟨u.heap.size, 0, rfl, Nat.lt_succ_self _, fun j hj => ?_⟩⟩
  have hg : (u.drew.alloc (.cells (bytesRow s (grownCap u s.size 0 5)) 5 ((bytesRow s (grownCap u s.size 0 5)).size, (bytesRow s (grownCap u s.size 0 5)).size + 1))).heap[u.heap.size]? = some _ := heap_alloc_new u.drew _
  rw [cell_of_row _ _ _ _ _ _ hg, Nat.zero_add, bytesRow, Array.getElem?_append_left (by simpa using hj)]
  have hj2 : j < s.data.size := by simpa using hj
  simp only [Array.getElem?_map, Array.getElem?_eq_getElem hj2, Option.map_some, Array.getElem?_toList, Option.getD_some]

theorem Shows.grown {B : Nat} {w w' : World} {g off l c : Nat} {bs : List UInt8} {row : Option Nat} (h : Shows B w (.slice (some ⟨g, off, none⟩) l c) bs) (hg : w.grownBy w' row) (hB : B ≤ w.heap.size) (hne : some g ≠ row) : Shows B w' (.slice (some ⟨g, off, none⟩) l c) bs := by
  obtain ⟨a, c', hv, h1, h2, hn, h3⟩ := h
  simp only [Value.slice.injEq] at hv
  obtain ⟨rfl, hl, rfl⟩ := hv
  refine ⟨_, c, by rw [hl], h1, h2, hn, fun hne2 => ?_⟩
  obtain ⟨b, off', ha, hlt, hc⟩ := h3 hne2
  simp only [Option.some.injEq, Addr.mk.injEq] at ha
  obtain ⟨rfl, rfl, _⟩ := ha
  refine ⟨g, off, rfl, hlt, fun j hj => ?_⟩
  rw [World.cell?_of_block (w := w) (hg.block g (by omega) hne)]
  exact hc j hj

/-- What is summed of a named row: the error, the bytes. -/
def textOf (name : List UInt8) (rows : List (List UInt8)) : Nat × List UInt8 := if 16 < name.length then (2, []) else rowOf (name :: rows)

/-- A slice of slices that the call owns, each of them shown. -/
theorem lists_of_owns {w : World} {B : Nat} {v : Value} {vs : List Value} {rows : List (List UInt8)} (ho : w.ownsRow B 28 1 v rows.length vs) (hl : vs.length = rows.length)
    (hsh : ∀ (j : Nat) (u : Value) (r : List UInt8), vs[j]? = some u → rows[j]? = some r → Shows w.heap.size w u r) : Lists w.heap.size w v rows := by
  rcases ho.2 with ⟨rfl, hn⟩ | ⟨g, cap, cur, rfl, hb, hg, hnc, hcm, hcs, ht⟩
  · have h0 : rows = [] := List.eq_nil_of_length_eq_zero hn
    subst h0
    have hv : vs = [] := List.eq_nil_of_length_eq_zero (by simpa using hl)
    subst hv
    exact ⟨none, 0, [], rfl, Nat.le_refl _, Nat.zero_le _, rfl, fun h => absurd rfl h, fun j u r hu => by simp at hu⟩
  · refine ⟨_, cap, vs, rfl, hnc, hcm, hl, fun _ => ⟨g, 0, rfl, (Array.getElem?_eq_some_iff.1 hg).1, fun j u hu => ?_⟩, hsh⟩
    have hj : j < vs.length := (List.getElem?_eq_some_iff.1 hu).1
    rw [Nat.zero_add, ho.cellAt j (by rw [← hl]; omega)]
    exact hu

theorem own_block {w : World} {B e n : Nat} {v : Value} {xs : List Value} (h : w.ownsRow B e 1 v n xs) (hn : 0 < n) : ∃ g, v.ownBlock = some g ∧ ∃ cur, w.heap[g]? = some (.cells cur e (0, 0)) := by
  rcases h.2 with ⟨_, h0⟩ | ⟨g, cap, cur, rfl, hb, hg, _⟩
  · omega
  · exact ⟨g, rfl, cur, hg⟩

theorem ownsRow_mono {w : World} {B B' e n : Nat} {v : Value} {xs : List Value} (h : w.ownsRow B e 1 v n xs) (hB : B' ≤ B) : w.ownsRow B' e 1 v n xs := by
  refine ⟨h.1, ?_⟩
  rcases h.2 with hn | ⟨g, cap, cur, hv, hBg, r⟩
  · exact .inl hn
  · exact .inr ⟨g, cap, cur, hv, by omega, r⟩

set_option maxHeartbeats 4000000 in
theorem text_long (s : ByteArray) (v : Value) (w : World) (h : 16 < s.size) (hm : s.size ≤ maxLen) :
    Calls Tryd.prog 53 #[.string s, v] w fun e w' => e = .returned (.tuple #[.slice none 0 0, .int .i64 2]) ∧ w' = w := by
  unfold maxLen at hm
  go_enter Tryd.func53, Tryd.ntmps53
  go_wp2
  go_ret2
  exact ⟨rfl, rfl⟩

set_option maxHeartbeats 4000000 in
theorem text_short (B : Nat) (s : ByteArray) (a : Option Addr) (c : Nat) (rows : List (List UInt8)) (w : World) (hs : s.size ≤ 16) (hB : B ≤ w.heap.size) (hL : Lists B w (.slice a rows.length c) rows) (hnl : a = none → c = 0) (hr : rows.length * 24 ≤ 140737488351232) :
    Calls Tryd.prog 53 #[.string s, .slice a rows.length c] w fun e w' => ∃ v', e = .returned (.tuple #[v', .int .i64 (rowOf (s.data.toList :: rows)).1]) ∧ w'.ownsRow w.heap.size 5 1 v' (rowOf (s.data.toList :: rows)).2.length ((rowOf (s.data.toList :: rows)).2.map by8) ∧ Below w.heap.size w w' := by
  obtain ⟨i0, hi, hz0, hz1, hz2⟩ := info_parts Tryd.infoRow
  go_enter Tryd.func53, Tryd.ntmps53
  go_wp2_with (first
    | (at_make; refine wpList_make_own _ rfl _ _ 72 rfl w.heap.size 28 i0 (.slice none 0 0) 1 Tryd.underlying72 hi hz0 hz1 _ _ _ (1 + rows.length) rfl rfl (by omega) ?b2 ?b3 (Nat.le_refl _) ?_)
    | fail)
  case b2 => rw [hz2]; omega
  case b3 => unfold maxLen; omega
  intro w1 hown1 hgr1
  have hb1 : Below w.heap.size w w1 := (Below.refl _ _).grown hgr1 (Nat.le_refl _) (fun x hx => by cases hx)
  have hg1 := (hown1.lt w.heap.size rfl).2
  obtain ⟨cn, wn, hcv, hshn, hbn, hszn, csn, frn, hcn⟩ := bytes_new s (by unfold maxLen; omega) w1
  have hown2 : wn.ownsRow w.heap.size 28 1 (.slice (some ⟨w.heap.size, 0, none⟩) 0 (1 + rows.length)) 0 [] := by
    refine ⟨hown1.1, ?_⟩
    rcases hown1.2 with hn | ⟨g, cap, cur, hv, hBg, hg, r⟩
    · exact .inl hn
    · exact .inr ⟨g, cap, cur, hv, hBg, by rw [hbn.block g (Array.getElem?_eq_some_iff.1 hg).1]; exact hg, r⟩
  have hb2 := hb1.trans (hbn.mono hb1.size)
  have HSZ := hid hszn
  have HCN := hid hcn
  clear hcn
  clear hgr1 hszn
  go_wp2_with (first
    | (at_builtin; refine wpList_append_own _ rfl (.tmp 14) (.tmp 17) 72 rfl w.heap.size 28 i0 (.slice none 0 0) 1 24 Tryd.underlying72 hi hz0 hz1 hz2 rfl (by decide) _ _ _ rfl (hown2.alloc _) ⟨wn.heap.size, 0, none⟩ 1 1 [.slice (some ⟨w1.heap.size, 0, none⟩) s.size cn] rfl rfl (one_cell _ _ _) (by intro u hu; simp at hu; subst hu; rfl) (by unfold maxLen; omega) (by omega) ?base ?_)
    | fail)
  case base => have := hb2.size; simp; omega
  intro v3 w3 hown3 hg3 _
  have hszn := HSZ.out
  have hb3 : Below w.heap.size w w3 := (hb2.alloc hb2.size _).grown hg3 (by have := hb2.size; simp; omega) (fun q hq => by have hq' : some w.heap.size = some q := hq; cases hq'; exact Nat.le_refl _)
  have hsh3 : Shows (w1.heap.size + 1) w3 (.slice (some ⟨w1.heap.size, 0, none⟩) s.size cn) s.data.toList := (hshn.alloc (by omega) _).grown hg3 (by simp; omega) (by intro e; have e' : some w1.heap.size = some w.heap.size := e; simp at e'; omega)
  have hcn3 : w3.heap[w1.heap.size]? = some (.cells csn 5 frn) := by
    rw [hg3.block _ (by simp; omega) (by intro e; have e' : some w1.heap.size = some w.heap.size := e; simp at e'; omega), heap_alloc_old _ _ (by omega)]
    exact HCN.out
  have hw3 : w1.heap.size + 1 < w3.heap.size := by have := hg3.size; simp at this; omega
  have hown3' : w3.ownsRow w.heap.size 28 1 v3 1 [.slice (some ⟨w1.heap.size, 0, none⟩) s.size cn] := by simpa using hown3
  clear hown3
  have hown3 := hown3'
  clear hown3'
  obtain ⟨g3, hg3v⟩ := own_block hown3 (by omega)
  have hL3 := hL.below (hb3.mono hB)
  have hnl2 : ∀ l c', Value.slice a rows.length c = .slice none l c' → c' = 0 := fun l c' e => by
    simp only [Value.slice.injEq] at e
    rw [← e.2.2]
    exact hnl e.1
  have HCN3 := hid hcn3
  have HGV := hid hg3v
  clear hcv hg3 hown1 hown2 hshn hcn3 hg3v
  go_wp2_with (first
    | (at_builtin; refine wpList_append_lists _ rfl (.tmp 19) (.tmp 20) 72 rfl w.heap.size 28 i0 Tryd.underlying72 hi hz0 hz1 hz2 _ 1 _ rfl hown3 B _ rows rfl hL3 hnl2 (by omega) hb3.size ?_)
    | fail)
  intro v4 w4 vs hvl hshv hown4 hg4
  obtain ⟨e1, cur, e2⟩ := HGV.out
  have hlt3 := hown3.lt g3 e1
  have hg4' : some w1.heap.size ≠ v3.ownBlock := by
    rw [e1]
    intro e
    simp only [Option.some.injEq] at e
    rw [← e, HCN3.out] at e2
    simp at e2
  have hb34 : Below w.heap.size w3 w4 := (Below.refl _ _).grown hg4 hb3.size (fun q hq => by rw [e1] at hq; cases hq; exact hlt3.1)
  have hb4 := hb3.trans hb34
  have hs4 : w3.heap.size ≤ w4.heap.size := hg4.size
  have hL4 : Lists w4.heap.size w4 v4 (s.data.toList :: rows) := by
    refine lists_of_owns (B := w.heap.size) (vs := .slice (some ⟨w1.heap.size, 0, none⟩) s.size cn :: vs) ?_ (by simp [hvl]) ?_
    · rw [List.length_cons, Nat.add_comm]; simpa using hown4
    · intro j u r hu hrr
      cases j with
      | zero =>
        simp at hu hrr
        subst hu hrr
        exact (hsh3.grown hg4 (by omega) hg4').mono (by omega)
      | succ j =>
        have := hshv j u r (by simpa using hu) (by simpa using hrr)
        exact (this.below (hb34.mono hB)).mono (by have := hb4.size; omega)
  clear hg4 hshv hown4 hown3 hsh3 hL3
  have hsz4 := hb4.size
  go_wp2_with fail
  refine (row_any w4.heap.size _ (s.data.toList :: rows) w4 (Nat.le_refl _) hL4).mono ?_
  rintro e w5 ⟨v5, rfl, hown5, hb5⟩
  have hb6 := hb4.trans (hb5.mono hsz4)
  have hown6 := ownsRow_mono hown5 hsz4
  clear hb5 hown5 hL4
  generalize hR : rowOf (s.data.toList :: rows) = R at *
  have HR := hid hR
  clear hR
  go_wp2
  go_ret2
  exact ⟨_, by rw [HR.out]; rfl, by rw [HR.out]; exact hown6, hb6⟩

theorem text_any (B : Nat) (s : ByteArray) (v : Value) (rows : List (List UInt8)) (w : World) (hm : s.size ≤ maxLen) (hB : B ≤ w.heap.size) (hL : Lists B w v rows) (hnl : ∀ l c, v = .slice none l c → c = 0) (hr : rows.length * 24 ≤ 140737488351232) :
    Calls Tryd.prog 53 #[.string s, v] w fun e w' => ∃ v', e = .returned (.tuple #[v', .int .i64 (textOf s.data.toList rows).1]) ∧ w'.ownsRow w.heap.size 5 1 v' (textOf s.data.toList rows).2.length ((textOf s.data.toList rows).2.map by8) ∧ Below w.heap.size w w' := by
  have hsz : s.data.toList.length = s.size := by rw [Array.length_toList]; rfl
  by_cases h : 16 < s.size
  · have e : textOf s.data.toList rows = (2, []) := by rw [textOf, if_pos (by omega)]
    rw [e]
    refine (text_long s v w h hm).mono fun e w' ⟨he, hw⟩ => ?_
    subst he hw
    exact ⟨_, rfl, World.ownsRow_nil _ _ _ _, Below.refl _ _⟩
  · have e : textOf s.data.toList rows = rowOf (s.data.toList :: rows) := by rw [textOf, if_neg (by omega)]
    rw [e]
    have hL0 := hL
    obtain ⟨a, c, _, rfl, _⟩ := hL
    exact text_short B s a c rows w (by omega) hB hL0 (fun ha => hnl _ c (by rw [ha])) hr

/-- The digest of a named row: the error, the bytes. -/
def ofOf (name : List UInt8) (rows : List (List UInt8)) : Nat × List UInt8 := if (textOf name rows).1 = 0 then (0, sha (textOf name rows).2) else ((textOf name rows).1, List.replicate 32 0)
end Go.Proofs.YthkeofinamedfaaDoor
