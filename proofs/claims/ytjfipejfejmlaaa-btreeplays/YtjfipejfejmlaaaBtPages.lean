/- Contract of Pages. -/
import Derived.Test.YtjfipejfejmlaaaBtRange0
namespace Go.Proofs.Ytjfipejfejmlaaa
open Go.RowKit Go.Shelf
set_option linter.unusedVariables false
set_option linter.unusedSimpArgs false
set_option maxRecDepth 20000
attribute [local go_sem] Oper.semAt_some

theorem Try.infoEntriesZ : (Try.prog.info? 27).map (fun i => (i.zero, i.size, i.bytes)) = some (some (.slice none 0 0), 1, 24) := by kernel_rfl
theorem Try.infoPages : (Try.prog.info? 43).map (·.size) = some 1 := by kernel_rfl

section
variable {P : Program} {md : Region.Mode} {ops : Array Oper} {Q : Exit → Act → World → Prop} {S : World → Prop} {fuel : Nat} {listed : Array Bool} {a : Act} {w : World} {i k0 : Nat} {oi : Oper}

/-- A slice of one, of a value of one cell. -/
theorem takeE_slice1 {t e : TypeId} {parts : Array (Nat × Operand)} (v : Value) (ie : TypeInfo) (z : Value) (hr : Region.ready md ops listed = [i]) (hi : ops[i]? = some oi) (gi : oi.guard = none)
    (ki : oi.op = .buildSlice t 1 parts) (ep : (parts.map fun (i, x) => (i, a.eval x)).toList = [(0, v)]) (hv : v.cells = #[v])
    (hu : P.underlying t = some (.slice e)) (hie : P.info? e = some ie) (hz : ie.zero = some z) (hzs : ie.size = 1)
    (hS : S (w.alloc (.cells #[v] e)))
    (h : wpAnyE P md ops Q S k0 fuel (listed.setIfInBounds i true) (a.put oi.dst (.slice (some ⟨w.heap.size, 0, none⟩) 1 1)) (w.alloc (.cells #[v] e))) : wpAnyE P md ops Q S k0 (fuel + 1) listed a w :=
  takeE_value hr hi gi (by
    unfold execOp
    simp only [ki]
    rw [Sem.run_bind, run_buildSlice w t e 1 _ #[v] ie z hu hie hz (by rw [hzs]; omega) (by rw [hzs]; omega) (by
      rw [ep, hzs]
      have := Go.Great.fill_whole (s := 1) (by decide) [v] ((Array.range (1 * 1)).map (z.cells[· % z.cells.size]!)) (by simp [hv]) (by simp)
      simpa [hv] using this)]
    rfl) hS h
end

theorem Rowed.spares_t {S : Nat → Prop} {B : Nat} {W W' : World} {sv : Value} {xs : List EntV} (h : Rowed B W sv xs) (hk : Spares S W W') (hS : ∀ i, S i → i < B ∨ ∃ cs, W.heap[i]? = some (.cells cs 27 (0, 0))) : Rowed B W' sv xs := by
  have key : ∀ {v : Value} {t s n : Nat} {cs : List Value}, W.ownsRow B t s v n cs → t ≠ 27 → W'.ownsRow B t s v n cs := fun hr ht => hk.row hr (fun g hg hs => by
    rcases hS g hs with h1 | ⟨cs', hc⟩
    · have := (hr.lt g hg).1; omega
    · obtain ⟨cs2, hc2⟩ := row_typed hr hg
      rw [hc] at hc2
      cases hc2
      exact ht rfl)
  exact ⟨key h.row (by decide), fun x hx => ⟨key (h.cps x hx).1 (by decide), key (h.cps x hx).2 (by decide)⟩, h.sep⟩

/-- Between two leaves of Pages. -/
structure PgsI (w : World) (told : List (Pg 0)) (W : World) (pv : Value) (vs : List Value) (Q : List (List EntV)) : Prop where
  box : W.heap[w.heap.size]? = some (.cells #[pv] 43 (0, 0))
  row : W.ownsRow (w.heap.size + 3) 27 1 pv vs.length vs
  len : vs.length = Q.length
  each : ∀ (j : Nat) (v : Value) (q : List EntV), vs[j]? = some v → Q[j]? = some q → Rowed (w.heap.size + 3) W v q
  same : Q.map (List.map EntV.ent) = told.map fun q => entsV q.es
  below : Below w.heap.size w W
  big : w.heap.size + 3 ≤ W.heap.size

theorem PgsI.new {w W W' : World} {told : List (Pg 0)} {pv : Value} {vs : List Value} {Q : List (List EntV)} (h : PgsI w told W pv vs Q) (hb : Below W.heap.size W W') : PgsI w told W' pv vs Q :=
  ⟨(hb.block _ (block_lt h.box)).trans h.box, (Spares.of_new (S := fun _ => False) hb).row h.row (fun _ _ => id), h.len, fun j v q h1 h2 => (h.each j v q h1 h2).new hb, h.same, h.below.trans (hb.mono h.below.size), Nat.le_trans h.big hb.size⟩

theorem pgsI_own {w : World} {g : Nat → List (Pg 0)} {B : Nat} (hB : w.heap.size ≤ B) : OwnFrom B (fun k W => ∃ pv vs Q, PgsI w (g k) W pv vs Q) := fun s W W' row hs hg hr => by
  obtain ⟨pv, vs, Q, h⟩ := hs
  exact ⟨pv, vs, Q, cells_own () W W' row h.box hg hr, row_own h.row hg hr, h.len, fun j v q h1 h2 => rowed_own (h.each j v q h1 h2) hg hr, h.same, ownFrom_below (Nat.le_refl _) hB () W W' row h.below hg hr, Nat.le_trans h.big hg.size⟩

theorem PgsI.few {w W : World} {told : List (Pg 0)} {pv : Value} {vs : List Value} {Q : List (List EntV)} (h : PgsI w told W pv vs Q) : vs.length = told.length := by
  have := congrArg List.length h.same
  rw [List.length_map, List.length_map] at this
  rw [h.len, this]

/-- One leaf more. -/
theorem pgs_step {w W W1 W2 W3 : World} {told : List (Pg 0)} {pv pv' rv : Value} {vs : List Value} {Q : List (List EntV)} {ys : List EntV} (B : Nat) (hI : PgsI w told W pv vs Q) (x : Pg 0) (h1 : Below W.heap.size W W1) (hrv : Rowed W.heap.size W1 rv ys) (hys : ys.map EntV.ent = entsV x.es) (h2 : Below W1.heap.size W1 W2)
    (hg : W2.grownBy W3 pv.ownBlock) (hown : W3.ownsRow (w.heap.size + 3) 27 1 pv' (vs.length + 1) (vs ++ [rv])) :
    KeepsFrom B W (W3.setCell ⟨w.heap.size, 0, none⟩ pv') ∧ KpL w.heap.size W (W3.setCell ⟨w.heap.size, 0, none⟩ pv') ∧ PgsI w (told ++ [x]) (W3.setCell ⟨w.heap.size, 0, none⟩ pv') pv' (vs ++ [rv]) (Q ++ [ys]) := by
  have hbig := hI.big
  have hb12 := h1.trans (h2.mono h1.size)
  have hlow : ∀ i, pv.ownBlock = some i → w.heap.size + 3 ≤ i ∧ i < W.heap.size := fun i hi => hI.row.lt i hi
  have sp3 : Spares (fun i => pv.ownBlock = some i) W W3 := (Spares.of_new hb12).andThen (Spares.of_grown (S := fun i => pv.ownBlock = some i) hg (fun k e => e)) (fun i hi => .inl hi)
  have sp13 : Spares (fun i => pv.ownBlock = some i) W1 W3 := (Spares.of_new h2).andThen (Spares.of_grown (S := fun i => pv.ownBlock = some i) hg (fun k e => e)) (fun i hi => .inl hi)
  have s4 := spares_set W3 ⟨w.heap.size, 0, none⟩ pv'
  have sp : Spares (fun i => i = w.heap.size ∨ pv.ownBlock = some i) W (W3.setCell ⟨w.heap.size, 0, none⟩ pv') := (sp3.mono fun i hi => .inr hi).andThen s4 (fun i hi => .inl (.inl hi))
  have sp1 : Spares (fun i => i = w.heap.size ∨ pv.ownBlock = some i) W1 (W3.setCell ⟨w.heap.size, 0, none⟩ pv') := (sp13.mono fun i hi => .inr hi).andThen s4 (fun i hi => .inl (.inl hi))
  have hS : ∀ i, (i = w.heap.size ∨ pv.ownBlock = some i) → w.heap.size ≤ i ∧ ∃ cs t, W.heap[i]? = some (.cells cs t (0, 0)) ∧ ¬ (t = 84 ∨ t = 58 ∨ t = 94) := fun i hi => by
    rcases hi with rfl | hi
    · exact ⟨Nat.le_refl _, _, _, hI.box, by decide⟩
    · obtain ⟨cs, hc⟩ := row_typed hI.row hi
      exact ⟨by have := (hlow i hi).1; omega, cs, _, hc, by decide⟩
  have hST : ∀ i, (i = w.heap.size ∨ pv.ownBlock = some i) → i < w.heap.size + 3 ∨ ∃ cs, W.heap[i]? = some (.cells cs 27 (0, 0)) := fun i hi => by
    rcases hi with rfl | hi
    · exact .inl (by omega)
    · exact .inr (row_typed hI.row hi)
  have hST1 : ∀ i, (i = w.heap.size ∨ pv.ownBlock = some i) → i < W.heap.size ∨ ∃ cs, W1.heap[i]? = some (.cells cs 27 (0, 0)) := fun i hi => by
    rcases hi with rfl | hi
    · exact .inl (by omega)
    · exact .inl (hlow i hi).2
  have hbox3 := (sp3.block _ (block_lt hI.box) (fun e => by have := (hlow _ e).1; omega)).trans hI.box
  refine ⟨keepsFrom_of sp (fun i hi => ?_), kpL_of_spares sp (fun i hi => (hS i hi).1) (by omega) (fun i hi => (hS i hi).2), ?_⟩
  · obtain ⟨_, cs, t, hc, _⟩ := hS i hi
    exact ⟨cs, t, _, hc⟩
  · refine ⟨heap_setCell_same _ _ _ _ _ _ hbox3, ?_, by rw [List.length_append, List.length_append, hI.len]; rfl, fun j v q hv hq => ?_, ?_, hI.below.trans (sp.below (fun i hi => (hS i hi).1) (by omega)), Nat.le_trans hbig sp.size⟩
    · rw [List.length_append]
      exact s4.row hown (fun g hg e => by have := (hown.lt g hg).1; have e' : g = w.heap.size := e; omega)
    · have hj : j < (vs ++ [rv]).length := (List.getElem?_eq_some_iff.1 hv).1
      rw [List.length_append, List.length_singleton] at hj
      by_cases hlt : j < vs.length
      · rw [List.getElem?_append_left hlt] at hv
        rw [List.getElem?_append_left (by have := hI.len; omega)] at hq
        exact (hI.each j v q hv hq).spares_t sp hST
      · have hje : j = vs.length := by omega
        subst hje
        rw [List.getElem?_append_right (Nat.le_refl _), Nat.sub_self] at hv
        rw [List.getElem?_append_right (by have := hI.len; omega), hI.len, Nat.sub_self] at hq
        cases hv
        cases hq
        exact (hrv.spares_t sp1 hST1).lower hbig
    · rw [List.map_append, List.map_append, hI.same]
      simp only [List.map_cons, List.map_nil]
      rw [hys]

theorem lvs_few {H : Nat} {T : Pg H} (hok : OkR H T) : (lvs H T).length ≤ (flat (H + 1) T).length + 1 := by
  cases H with
  | zero =>
    show 1 ≤ _
    omega
  | succ H =>
    have h3 := (lvs_ok (show OkE (H + 2) T from hok)).1
    have h4 := mul_le_sum (fun q : Pg 0 => (q.es : List EntV).length) 1 (lvs (H + 1) T) fun q hq => by
      have := (okE_pg.1 (h3 q hq)).1
      show 1 ≤ q.es.length
      omega
    have h5 := congrArg List.length (lvs_flat (H + 1) T)
    rw [List.length_flatMap] at h5
    omega

/-- All leaves come, where no key is ahead of the first. -/
theorem lvs_all {H : Nat} {T : Pg H} (hok : OkR H T) {A E : List (Pg 0)} (hA : lvs H T = A ++ E) (hne : E ≠ []) (hk : ∀ q ∈ A, ∀ x ∈ (q.es : List EntV), Op.bytesLess x.k [] = true) : E = lvs H T := by
  rcases A with _ | ⟨q, A⟩
  · rw [hA]; rfl
  · exfalso
    have hq0 : (q.es : List EntV) = [] := by
      rcases hes : (q.es : List EntV) with _ | ⟨y, ys⟩
      · rfl
      · have := hk q (by simp) y (by rw [hes]; simp)
        cases hyk : y.k <;> rw [hyk] at this <;> cases this
    cases H with
    | zero =>
      have hl := congrArg List.length hA
      have : 0 < E.length := List.length_pos_iff.2 hne
      rw [show lvs 0 T = [T] from rfl] at hl
      simp only [List.length_cons, List.length_nil, List.length_append, List.cons_append] at hl
      omega
    | succ H =>
      have h3 := (lvs_ok (show OkE (H + 2) T from hok)).1 q (by rw [hA]; simp)
      have := (okE_pg.1 h3).1
      rw [show (q.es : List EntV) = [] from hq0] at this
      simp at this

set_option maxHeartbeats 8000000 in
theorem btx_pages {S : Nat → Prop} {w : World} {tb d : Nat} {P : List (List Ent)} (h : BTx S w tb P d) (hn : P.flatten.length < 100000) :
    Calls Try.prog 18 #[.pointer (some ⟨tb, 0, none⟩)] w fun e w' => ∃ pv Q, e = .returned pv ∧ Leaves w' pv Q ∧ Q.map (List.map EntV.ent) = P ∧ Below w.heap.size w w' := by
  have hd := btx_height h hn
  obtain ⟨K, H, T, h1, h2, h3, h4, rfl, rfl, h7⟩ := h
  rw [pagesV_flat] at hn
  rw [entsV, List.length_map] at hn
  have HLF := hid (leaf_facts h1.lies h3 h4)
  have H1 := hid h1
  have H2 := hid h2
  have H3 := hid h3
  have HN := hid hn
  have HFEW := hid (lvs_few h2)
  have hbz := new_alloc w (.cells #[.slice none 0 0] 43)
  have hzz : (w.alloc (.cells #[.slice none 0 0] 43)).heap.size = w.heap.size + 1 := World.size_alloc _ _
  obtain ⟨y0, y1, y2, hby, hyz⟩ := alloc3 w (.cells #[.slice none 0 0] 43) (.cells #[.pointer (some ⟨tb, 0, none⟩)] 24) (.cells #[.slice none 0 0] 30)
  have HLV := leaves_any tb (.slice none 0 0) [] _ (says_nil (w.alloc (.cells #[.slice none 0 0] 43)))
  rw [hzz] at HLV
  clear h1 h2 h3 h4 h7 hn
  refine (callsIn_wide (n := 3)).1 ?_
  refine callsIn_of_wp_marks Try.func18 rfl trivial ?_ rfl
  simp only [Try.ntmps18, List.size_toArray, List.length_cons, List.length_nil, Nat.reduceAdd, Nat.reduceSub, Array.replicate_succ, Array.replicate_zero, List.push_toArray, List.append_toArray, List.nil_append, List.cons_append]
  gi_wp2_with (refine ⟨trivial, ?_⟩; gi_at_call 38; refine (callsIn_wide.2 HLV).mono ?_; clear HLV; rintro e w4 ⟨rfl, rfl⟩)
  generalize ((w.alloc (.cells #[.slice none 0 0] 43)).alloc (.cells #[.pointer (some ⟨tb, 0, none⟩)] 24)).alloc (.cells #[.slice none 0 0] 30) = w5 at *
  simp only [Nat.add_assoc, Nat.reduceAdd]
  clear hbz hzz
  refine range_tellsE (by omega) (gf := 53) (lb := #[.pointer (some ⟨w.heap.size + 1, 0, none⟩), .pointer (some ⟨w.heap.size + 2, 0, none⟩)]) rfl (enters_of Try.func53 (by kernel_rfl) rfl)
    (leaves_tells _ (.slice none 0 0) [] H1.out H2.out H3.out (says_nil w) (by omega) hby (w.heap.size + 1) (w.heap.size + 2) y1 y2) kpL_t (fun X l o o' hl hX ho => kpL_put X l o o' (by omega) hX ho) (fun _ => rfl)
    (fun E k X => ∃ pv vs Q, PgsI w (E.take k) X pv vs Q)
    (fun cd E k X => False)
    (fun E => pgsI_own (by omega)) (fun cd E s A C row hs hg hr => hs)
    (fun E hE => ⟨_, [], [], y0, World.ownsRow_nil _ _ _ _, rfl, fun j v q hv hq => (by simp at hv), rfl, hby, by omega⟩)
    (fun x a' X => a' = { tmps := #[.pointer (some ⟨tb, 0, none⟩), undef, .slice none 0 0, .pointer (some ⟨w.heap.size, 0, none⟩), .pointer (some ⟨x.pb, 0, none⟩), .pointer (some ⟨tb, 0, none⟩), .func (.func 53) #[] #[.pointer (some ⟨w.heap.size + 1, 0, none⟩), .pointer (some ⟨w.heap.size + 2, 0, none⟩)], .pointer (some ⟨x.pb, 0, none⟩), undef, undef, undef, undef, undef, undef, undef, undef, undef], defers := [] }) (fun x a' s A C row hs hg hr => hs) ?assign ?body ?done ?stop
  case stop => exact fun E D cd k X _ _ _ hx _ => hx.elim
  case done =>
    rintro E D X hD ⟨A, hAE, hne, hAk⟩ ⟨pv, vs, Q, hI⟩ hK
    rw [List.take_length] at hI
    have hE := lvs_all H2.out hAE hne hAk
    subst hE
    have hvl := hI.few
    have hpos : 0 < (lvs H T).length := List.length_pos_iff.2 hne
    obtain ⟨g, cap, rfl⟩ : ∃ g cap, pv = .slice (some ⟨g, 0, none⟩) vs.length cap := by
      rcases hI.row.2 with ⟨_, h0⟩ | ⟨g, cap, cur, e, _⟩
      · omega
      · exact ⟨g, cap, e⟩
    have x0 : X.cell? ⟨w.heap.size, 0, none⟩ = some (.slice (some ⟨g, 0, none⟩) vs.length cap) := by rw [cell_of_row _ _ _ _ _ _ hI.box]; rfl
    have HI := hid hI
    have HK := hid hK
    clear hI hK hAE hne hAk hvl hpos
    gi_wp2
    refine leaves_marks [D] _ ((waits_nil _).cons HK.out (fun E hE => (by cases hE))) fun w'' hs hz2 => ?_
    have hx2 := own_mark (J := fun _ X => PgsI w (lvs H T) X (.slice (some ⟨g, 0, none⟩) vs.length cap) vs Q) (k := 0) (B := w5.heap.size) (fun s A C row h hg hr => ⟨cells_own () A C row h.box hg hr, row_own h.row hg hr, h.len, fun j v q h1 h2 => rowed_own (h.each j v q h1 h2) hg hr, h.same, ownFrom_below (Nat.le_refl _) (by omega) () A C row h.below hg hr, Nat.le_trans h.big hg.size⟩) HI.out hD HK.out hs
    refine ⟨_, results_tmp (t := 2) rfl _ _ _, _, Q, rfl, ?_, hx2.same, hx2.below⟩
    rcases hx2.row.2 with ⟨e, _⟩ | ⟨g', cap', cur, e, _, hg, q1, q2, q3, q4⟩
    · cases e
    · simp only [Value.slice.injEq, Option.some.injEq, Addr.mk.injEq, true_and, and_true] at e
      obtain ⟨rfl, rfl⟩ := e
      refine ⟨g, 0, cap, by rw [← hx2.len]; rfl, by rw [← hx2.len]; exact q1, q2, fun j q hq => ?_⟩
      have hj : j < vs.length := by rw [hx2.len]; exact (List.getElem?_eq_some_iff.1 hq).1
      obtain ⟨v, hv⟩ : ∃ v, vs[j]? = some v := ⟨_, List.getElem?_eq_getElem hj⟩
      have hR := hx2.each j _ q hv hq
      refine ⟨v, ?_, hR.ents, fun l c e => ?_⟩
      · rw [cell_of_row _ _ _ _ _ _ hg, Nat.zero_add]
        have h9 : (cur.toList.take (vs.length * 1))[j]? = some v := by rw [q4]; exact hv
        rw [List.getElem?_take, if_pos (by omega), Array.getElem?_toList] at h9
        exact h9
      · rcases hR.row.2 with ⟨e2, _⟩ | ⟨g2, cap2, cur2, e2, _⟩
        · rw [e] at e2; cases e2; rfl
        · rw [e] at e2; cases e2
  case assign =>
    intro E l' m k x X K' hE hx hI hK
    have HK := hid hK
    have HI := hid hI
    clear hI hK hx hE
    dsimp only
    gi_wp2
    exact HK.out _ _ (KeepsFrom.refl _ _) (kpL_refl _ _) HI.out rfl
  case body =>
    rintro E l' m k x a' X hl' ⟨A, hAE, hne, hAk⟩ hx ⟨pv, vs, Q, hI⟩ rfl
    have hxE := List.mem_of_getElem? hx
    have hxm : x ∈ lvs H T := by rw [hAE]; exact List.mem_append_right _ hxE
    obtain ⟨l1, l2, l3, l4⟩ := HLF.out x hxm
    have hlX := l1.new hI.below
    have HC := cloneAll_any x.sv x.es X.drew ((leaf_ents hlX).new (below_drewN _ X 1)) (fun y hy => l3 y hy) (by have := HN.out; omega)
    obtain ⟨ax, cx, hsx⟩ := row_slice (lies_pg.1 l1).1.row
    obtain ⟨ap, cp, rfl⟩ := row_slice hI.row
    have hE := lvs_all H2.out hAE hne hAk
    have hvl : vs.length < 100001 := by
      have h8 := hI.few
      have h9 := HFEW.out
      have h10 := HN.out
      rw [List.length_take, hE] at h8
      omega
    have htk : E.take (k + 1) = E.take k ++ [x] := by rw [List.take_add_one, hx]; rfl
    have hpl := block_lt (lies_pg.1 hlX).1.blk
    have hpw := block_lt (lies_pg.1 l1).1.blk
    rw [hsx] at HC
    have hS0 : (fun W' : World => W'.cell? ⟨w.heap.size, 0, none⟩ = some (.slice ap vs.length cp) ∧ W'.cell? ⟨x.pb, 0, none⟩ = some (.slice ax x.es.length cx) ∧ True) X.drew := ⟨by show X.cell? _ = _; rw [cell_of_row _ _ _ _ _ _ hI.box]; rfl, by show X.cell? _ = _; rw [cell_of_row _ _ _ _ _ _ (lies_pg.1 hlX).1.blk, hsx]; rfl, trivial⟩
    have HI := hid hI
    have HTK := hid htk
    have hx0 := hI.below.size
    generalize hpb : x.pb = pb at *
    try dsimp only
    clear hx hxE hxm l1 l2 l3 l4 hlX hI hAE hne hAk hE hpb htk hsx
    gi_wp2
    refine last_in_round (fun W' : World => W'.cell? ⟨w.heap.size, 0, none⟩ = some (.slice ap vs.length cp) ∧ W'.cell? ⟨pb, 0, none⟩ = some (.slice ax x.es.length cx) ∧ True) 8 (by kernel_rfl) (by kernel_rfl) (by rintro ⟨_, _, h⟩; exact h) ?_
    refine tkE (i := 0) rfl (by assumption) ?_
    refine tkE (i := 1) rfl (by assumption) ?_
    refine tkE (i := 2) rfl (by assumption) ?_
    refine tkE (i := 3) rfl (by assumption) ?_
    refine tkE (i := 4) rfl (by assumption) ?_
    refine takeE_call (i := 5) #[.slice ax x.es.length cx] (fun u w' => ∃ ys, Rowed X.heap.size w' u ys ∧ ys.map EntV.ent = (x.es : List EntV).map EntV.ent ∧ Below X.heap.size X w') (by kernel_rfl) rfl rfl rfl (by kernel_rfl) (enters_of Try.func41 (by kernel_rfl) rfl) (HC.mono fun e w' ⟨rv, ys, h1, h2, h3, h4, h5⟩ => ⟨_, h1, ys, h2, h3, (below_drewN _ _ 1).trans h5⟩) ?_
    rintro rv W1 ⟨ys, hrv, hys, hb1⟩
    obtain ⟨a5, c5, rfl⟩ := row_slice hrv.row
    have hS1 : (fun W' : World => W'.cell? ⟨w.heap.size, 0, none⟩ = some (.slice ap vs.length cp) ∧ W'.cell? ⟨pb, 0, none⟩ = some (.slice ax x.es.length cx) ∧ True) W1 := ⟨(hb1.cell (p := ⟨w.heap.size, 0, none⟩) (World.block_lt_of_cell? X _ hS0.1)).trans hS0.1, (hb1.cell (p := ⟨pb, 0, none⟩) (World.block_lt_of_cell? X _ hS0.2.1)).trans hS0.2.1, trivial⟩
    refine ⟨hS1, ?_⟩
    simp only [Act.put, List.getElem_toArray, List.getElem_cons_zero, List.getElem_cons_succ, List.setIfInBounds_toArray, List.set_cons_zero, List.set_cons_succ]
    obtain ⟨i0, hi, hz0, hz1, hz2⟩ := info_parts Try.infoEntriesZ
    have hbA : Below W1.heap.size W1 (W1.alloc (.cells #[.slice a5 ys.length c5] 27)) := (Below.refl _ _).alloc (Nat.le_refl _) _
    have hnA := World.alloc_heap_new W1 (.cells #[.slice a5 ys.length c5] 27)
    have hS2 : (fun W' : World => W'.cell? ⟨w.heap.size, 0, none⟩ = some (.slice ap vs.length cp) ∧ W'.cell? ⟨pb, 0, none⟩ = some (.slice ax x.es.length cx) ∧ True) (W1.alloc (.cells #[.slice a5 ys.length c5] 27)) := ⟨(hbA.cell (p := ⟨w.heap.size, 0, none⟩) (World.block_lt_of_cell? W1 _ hS1.1)).trans hS1.1, (hbA.cell (p := ⟨pb, 0, none⟩) (World.block_lt_of_cell? W1 _ hS1.2.1)).trans hS1.2.1, trivial⟩
    refine takeE_slice1 (i := 6) (.slice a5 ys.length c5) i0 _ (by kernel_rfl) rfl rfl rfl (by kernel_rfl) rfl Try.underlying43 hi hz0 hz1 hS2 ?_
    simp only [Act.put, List.getElem_toArray, List.getElem_cons_zero, List.getElem_cons_succ, List.setIfInBounds_toArray, List.set_cons_zero, List.set_cons_succ]
    have hb2 : Below X.heap.size X (W1.alloc (.cells #[.slice a5 ys.length c5] 27)) := hb1.trans (hbA.mono hb1.size)
    generalize W1.alloc (.cells #[.slice a5 ys.length c5] 27) = W2 at *
    have hown2 := (Spares.of_new (S := fun _ => False) hb2).row HI.out.row (fun _ _ => id)
    have hb2z := hb2.size
    have hb6 := HI.out.big
    refine takeE_append (i := 7) (s := .tmp 8) (x := .tmp 14) (t := 43) (by kernel_rfl) rfl rfl rfl (w.heap.size + 3) 27 i0 _ 1 24 Try.underlying43 hi hz0 hz1 hz2 rfl (by decide) (.slice ap vs.length cp) vs.length vs (by kernel_rfl) hown2 ⟨W1.heap.size, 0, none⟩ 1 1 [.slice a5 ys.length c5] (by kernel_rfl) rfl (by have := World.news_of_block hnA; simpa using this) (by intro u hu; simp at hu; rcases hu with rfl; rfl) (by decide) (by unfold maxLen; omega) (by omega) (by omega) ?_
    intro g5 cap5 W3 hown3 hgrow hat hglt
    have hlow : ∀ i, (Value.slice ap vs.length cp).ownBlock = some i → w.heap.size + 3 ≤ i ∧ i < X.heap.size := fun i hi => HI.out.row.lt i hi
    have hS3 : (fun W' : World => W'.cell? ⟨w.heap.size, 0, none⟩ = some (.slice ap vs.length cp) ∧ W'.cell? ⟨pb, 0, none⟩ = some (.slice ax x.es.length cx) ∧ True) W3 := ⟨(hgrow.cell_far ⟨w.heap.size, 0, none⟩ (World.block_lt_of_cell? W2 _ hS2.1) (fun e => by have h1 : w.heap.size + 3 ≤ w.heap.size := (hlow _ e.symm).1; omega)).trans hS2.1,
      (hgrow.cell_far ⟨pb, 0, none⟩ (World.block_lt_of_cell? W2 _ hS2.2.1) (fun e => by have h1 : w.heap.size + 3 ≤ pb := (hlow _ e.symm).1; omega)).trans hS2.2.1, trivial⟩
    have hfr3 : W3.frozen? ⟨w.heap.size, 0, none⟩ = false := by
      rw [hgrow.frozen_far ⟨w.heap.size, 0, none⟩ (World.block_lt_of_cell? W2 _ hS2.1) (fun e => by have h1 : w.heap.size + 3 ≤ w.heap.size := (hlow _ e.symm).1; omega)]
      have hgot2 := (hb2.block _ (block_lt HI.out.box)).trans HI.out.box
      simp [World.frozen?, hgot2]
    have HST := hid (pgs_step w5.heap.size HI.out x hb1 hrv hys hbA hgrow hown3)
    refine ⟨hS3, ?_⟩
    simp only [Act.put, List.getElem_toArray, List.getElem_cons_zero, List.getElem_cons_succ, List.setIfInBounds_toArray, List.set_cons_zero, List.set_cons_succ]
    have HYZ := hid hyz
    clear hown3 hgrow hat hlow hown2 hnA hS2 hS1 hb2 hb1 hbA HC hrv hys hyz
    refine takeE_store (i := 8) (pi := ⟨w.heap.size, 0, none⟩) (v := .slice (some ⟨g5, 0, none⟩) (vs.length + 1) cap5) Try.infoPages (by kernel_rfl) rfl rfl rfl rfl (by kernel_rfl) (by kernel_rfl) rfl rfl hS3.1 hfr3 (.inr rfl) ?_
    refine wpAnyE_done (by kernel_rfl) ?_ _
    clear hS3 hfr3
    gi_wp2
    exact ⟨HST.out.1, HST.out.2.1, _, _, _, by rw [HTK.out]; exact HST.out.2.2⟩
end Go.Proofs.Ytjfipejfejmlaaa
