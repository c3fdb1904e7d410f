/- shareOut: what some pages hold, in one new page or two. -/
import Derived.Test.YtjfipejfejmlaaaBtNewP
namespace Go.Proofs.Ytjfipejfejmlaaa
open Go.RowKit Go.Shelf
set_option linter.unusedVariables false
set_option linter.unusedSimpArgs false
set_option maxRecDepth 20000

def ptr (b : Nat) : Value := .pointer (some ⟨b, 0, none⟩)

/-- A page that is read: its block, its rows. -/
structure RP where
  pb : Nat
  se : Value
  sp : Value
  fv : Value
  ne : Nat
  np : Nat
  ce : List Value
  cp : List Value

structure RP.at (w : World) (p : RP) : Prop where
  blk : w.heap[p.pb]? = some (.cells #[p.se, p.sp, p.fv] 66 (0, 0))
  rowe : Rw w 2 p.se p.ne p.ce
  rowp : Rw w 1 p.sp p.np p.cp

theorem RP.at.new {w w' : World} {p : RP} (h : p.at w) (hb : Below w.heap.size w w') : p.at w' :=
  ⟨(hb.block _ (block_lt h.blk)).trans h.blk, h.rowe.new hb, h.rowp.new hb⟩

def sumE (ps : List RP) : Nat := (ps.map RP.ne).sum
def sumP (ps : List RP) : Nat := (ps.map RP.np).sum
def allE (ps : List RP) : List Value := ps.flatMap RP.ce
def allP (ps : List RP) : List Value := ps.flatMap RP.cp

theorem sumE_take {ps : List RP} {k : Nat} {p : RP} (h : ps[k]? = some p) : sumE (ps.take (k + 1)) = sumE (ps.take k) + p.ne := by simp [sumE, List.take_add_one, h]
theorem sumP_take {ps : List RP} {k : Nat} {p : RP} (h : ps[k]? = some p) : sumP (ps.take (k + 1)) = sumP (ps.take k) + p.np := by simp [sumP, List.take_add_one, h]
theorem allE_take {ps : List RP} {k : Nat} {p : RP} (h : ps[k]? = some p) : allE (ps.take (k + 1)) = allE (ps.take k) ++ p.ce := by simp [allE, List.take_add_one, h]
theorem allP_take {ps : List RP} {k : Nat} {p : RP} (h : ps[k]? = some p) : allP (ps.take (k + 1)) = allP (ps.take k) ++ p.cp := by simp [allP, List.take_add_one, h]
theorem sum_bound {f : RP → Nat} : ∀ {ps : List RP}, (∀ p ∈ ps, f p ≤ 1000) → (ps.map f).sum ≤ ps.length * 1000
  | [], _ => by simp
  | p :: ps, h => by
    have h1 := h p (by simp)
    have h2 := sum_bound (f := f) (ps := ps) (fun q hq => h q (by simp [hq]))
    simp only [List.map_cons, List.sum_cons, List.length_cons]
    omega

/-- A row that is new. -/
theorem owns_new {B : Nat} {e : TypeId} (w : World) (cur : List Value) (hb : B ≤ w.heap.size) (hm : cur.length ≤ maxLen) :
    (w.alloc (.cells cur.toArray e)).ownsRow B e 1 (.slice (some ⟨w.heap.size, 0, none⟩) cur.length cur.length) cur.length cur :=
  ⟨by simp, .inr ⟨w.heap.size, cur.length, cur.toArray, rfl, hb, heap_alloc_new w _, Nat.le_refl _, hm, by simp, by simp⟩⟩

/-- What stands first. -/
structure FirstIs (w : World) (fv : Value) (ne np : Nat) (ce cp : List Value) : Prop where
  pages : 0 < np → ∃ b0, cp[0]? = some (ptr b0) ∧ w.cell? ⟨b0, 2, none⟩ = some fv
  ents : np = 0 → 0 < ne → ce[0]? = some fv
  nil0 : np = 0 → ne = 0 → fv = nilS

/-- Firsts are slices. -/
def Heads (w : World) (ce cp : List Value) : Prop :=
  (∀ u ∈ cp, ∃ b f, u = ptr b ∧ w.cell? ⟨b, 2, none⟩ = some f ∧ ∃ a l c, f = .slice a l c) ∧ ∀ u ∈ ce, ∃ a l c, u = .slice a l c

theorem Heads.new {w w' : World} {ce cp : List Value} (h : Heads w ce cp) (hb : Below w.heap.size w w') : Heads w' ce cp :=
  ⟨fun u hu => by
    obtain ⟨b, f, e, hc, hs⟩ := h.1 u hu
    exact ⟨b, f, e, (hb.cell (p := ⟨b, 2, none⟩) (World.block_lt_of_cell? w _ hc)).trans hc, hs⟩, h.2⟩

theorem FirstIs.back {w w' : World} {fv : Value} {ne np : Nat} {ce cp : List Value} (h : FirstIs w' fv ne np ce cp) (hH : Heads w ce cp) (hb : Below w.heap.size w w') : FirstIs w fv ne np ce cp :=
  ⟨fun h0 => by
    obtain ⟨b0, h1, h2⟩ := h.pages h0
    obtain ⟨b, f, e, hc, _⟩ := hH.1 _ (List.mem_of_getElem? h1)
    have eb : b = b0 := by simpa [ptr] using e.symm
    rw [eb] at hc
    have := (hb.cell (p := ⟨b0, 2, none⟩) (World.block_lt_of_cell? w _ hc)).trans hc
    rw [this] at h2
    cases h2
    exact ⟨b0, h1, hc⟩, h.ents, h.nil0⟩

/-- newPage, told by what stands first. -/
theorem newPage_first (ev bv : Value) (ne np : Nat) (ce cp : List Value) (w : World) (he : Rw w 2 ev ne ce) (hp : Rw w 1 bv np cp) (hne : ne < 1000000000) (hnp : np < 1000000000) (hH : Heads w ce cp) :
    Calls Try.prog 23 #[ev, bv] w fun e w' => ∃ pb se sp fv, e = .returned (.pointer (some ⟨pb, 0, none⟩)) ∧ Pag w' w.heap.size pb se sp fv ne np ce cp ∧ FirstIs w fv ne np ce cp ∧ (ev = nilS → se = nilS) ∧ (bv = nilS → sp = nilS) ∧ Below w.heap.size w w' := by
  have lp : cp.length = np * 1 := by obtain ⟨_, _, _, _, _, h, _⟩ := hp; exact h
  have le : ce.length = ne * 2 := by obtain ⟨_, _, _, _, _, h, _⟩ := he; exact h
  have hx : 0 < ne → ∃ x, ce[0]? = some x := fun h => ⟨_, List.getElem?_eq_getElem (by omega)⟩
  have hu : 0 < np → ∃ u, cp[0]? = some u := fun h => ⟨_, List.getElem?_eq_getElem (by omega)⟩
  by_cases hn0 : np = 0
  · by_cases he0 : ne = 0
    · refine (newPage_any ev bv ne np ce cp nilS nilS w he hp hne hnp (fun h => by omega) (fun h => by omega)).mono ?_
      rintro e w' ⟨pb, se, sp, h1, h2, h3, h4, h5⟩
      exact ⟨pb, se, sp, _, h1, h2, ⟨fun h => by omega, fun _ h => by omega, fun _ _ => by simp [firstV, hn0, he0]⟩, h3, h4, h5⟩
    · obtain ⟨x, hx0⟩ := hx (by omega)
      refine (newPage_any ev bv ne np ce cp nilS x w he hp hne hnp (fun h => by omega) (fun h => ⟨hx0, hH.2 x (List.mem_of_getElem? hx0)⟩)).mono ?_
      rintro e w' ⟨pb, se, sp, h1, h2, h3, h4, h5⟩
      exact ⟨pb, se, sp, _, h1, h2, ⟨fun h => by omega, fun _ h => by rw [hx0]; simp [firstV, hn0, h], fun _ h => by omega⟩, h3, h4, h5⟩
  · obtain ⟨u, hu0⟩ := hu (by omega)
    obtain ⟨b, f, e, hc, hs⟩ := hH.1 u (List.mem_of_getElem? hu0)
    rw [e] at hu0
    have hnp0 : 0 < np := by omega
    by_cases he0 : ne = 0
    · refine (newPage_any ev bv ne np ce cp f nilS w he hp hne hnp (fun h => ⟨b, hu0, hc, hs⟩) (fun h => by omega)).mono ?_
      rintro e w' ⟨pb, se, sp, h1, h2, h3, h4, h5⟩
      exact ⟨pb, se, sp, _, h1, h2, ⟨fun _ => ⟨b, hu0, by rw [hc]; simp [firstV, hnp0]⟩, fun h => by omega, fun h => by omega⟩, h3, h4, h5⟩
    · obtain ⟨x, hx0⟩ := hx (by omega)
      refine (newPage_any ev bv ne np ce cp f x w he hp hne hnp (fun h => ⟨b, hu0, hc, hs⟩) (fun h => ⟨hx0, hH.2 x (List.mem_of_getElem? hx0)⟩)).mono ?_
      rintro e w' ⟨pb, se, sp, h1, h2, h3, h4, h5⟩
      exact ⟨pb, se, sp, _, h1, h2, ⟨fun _ => ⟨b, hu0, by rw [hc]; simp [firstV, hnp0]⟩, fun h => by omega, fun h => by omega⟩, h3, h4, h5⟩

/-- What shareOut answers: one page. -/
structure OneP (w w' : World) (ps : List RP) (rv : Value) : Prop where
  out : ∃ pb se sp fv, w'.ownsRow w.heap.size 53 1 rv 1 [ptr pb] ∧ Pag w' w.heap.size pb se sp fv (sumE ps) (sumP ps) (allE ps) (allP ps) ∧ FirstIs w fv (sumE ps) (sumP ps) (allE ps) (allP ps) ∧ ((∀ p ∈ ps, p.se = nilS) → se = nilS) ∧ ((∀ p ∈ ps, p.sp = nilS) → sp = nilS) ∧ ∀ g, rv.ownBlock = some g → sp.ownBlock ≠ some g

/-- .. two. -/
structure TwoP (w w' : World) (ps : List RP) (rv : Value) : Prop where
  out : ∃ m pb se sp fv pb2 se2 sp2 fv2, w.heap.size ≤ m ∧ w'.ownsRow m 53 1 rv 2 [ptr pb, ptr pb2] ∧
    Pag w' w.heap.size pb se sp fv (sumE ps / 2) (sumP ps / 2) ((allE ps).take (sumE ps / 2 * 2)) ((allP ps).take (sumP ps / 2)) ∧ FirstIs w fv (sumE ps / 2) (sumP ps / 2) ((allE ps).take (sumE ps / 2 * 2)) ((allP ps).take (sumP ps / 2)) ∧
    Pag w' m pb2 se2 sp2 fv2 (sumE ps - sumE ps / 2) (sumP ps - sumP ps / 2) ((allE ps).drop (sumE ps / 2 * 2)) ((allP ps).drop (sumP ps / 2)) ∧ FirstIs w fv2 (sumE ps - sumE ps / 2) (sumP ps - sumP ps / 2) ((allE ps).drop (sumE ps / 2 * 2)) ((allP ps).drop (sumP ps / 2)) ∧
    pb < m ∧ (∀ g, se.ownBlock = some g → g < m) ∧ (∀ g, sp.ownBlock = some g → g < m) ∧ (∀ g, rv.ownBlock = some g → sp2.ownBlock ≠ some g) ∧
    ((∀ p ∈ ps, p.se = nilS) → se = nilS ∧ se2 = nilS) ∧ ((∀ p ∈ ps, p.sp = nilS) → sp = nilS ∧ sp2 = nilS)

theorem pag_lt {w : World} {B pb ne np : Nat} {se sp fv : Value} {ce cp : List Value} (h : Pag w B pb se sp fv ne np ce cp) : pb < w.heap.size ∧ (∀ g, se.ownBlock = some g → g < w.heap.size) ∧ ∀ g, sp.ownBlock = some g → g < w.heap.size :=
  ⟨block_lt h.blk, fun g hg => (h.rowe.lt g hg).2, fun g hg => (h.rowp.lt g hg).2⟩

theorem mem_allE {ps : List RP} {p : RP} (hp : p ∈ ps) : ∀ u ∈ p.ce, u ∈ allE ps := fun u hu => List.mem_flatMap.2 ⟨p, hp, hu⟩
theorem mem_allP {ps : List RP} {p : RP} (hp : p ∈ ps) : ∀ u ∈ p.cp, u ∈ allP ps := fun u hu => List.mem_flatMap.2 ⟨p, hp, hu⟩

theorem cells1 {w : World} {s n : Nat} {v : Value} {cs : List Value} (h : Rw w s v n cs) : ∀ u ∈ cs, u.oneCell' = true := by
  obtain ⟨_, _, _, _, _, _, _, _, h⟩ := h
  exact h

set_option maxHeartbeats 8000000 in
theorem shareOut_any (v : Value) (ps : List RP) (w : World) (hv : Rw w 1 v ps.length (ps.map fun p => ptr p.pb)) (hps : ∀ p ∈ ps, p.at w) (hne : ∀ p ∈ ps, p.ne ≤ 1000) (hnp : ∀ p ∈ ps, p.np ≤ 1000) (hl : ps.length ≤ 100) (hH : Heads w (allE ps) (allP ps)) :
    Calls Try.prog 49 #[v] w fun e w' => ∃ rv, e = .returned rv ∧ (sumE ps ≤ 4 ∧ sumP ps ≤ 4 → OneP w w' ps rv) ∧ (¬ (sumE ps ≤ 4 ∧ sumP ps ≤ 4) → TwoP w w' ps rv) ∧ Below w.heap.size w w' := by
  obtain ⟨a, c, rfl, p1, p2, _⟩ := id hv
  have hbE := sum_bound (f := RP.ne) hne
  have hbP := sum_bound (f := RP.np) hnp
  have HV := hid hv
  have HPS := hid hps
  have HH := hid hH
  have HTE : Hid (∀ k, sumE (ps.take k) ≤ 100000 ∧ sumP (ps.take k) ≤ 100000) := hid (fun k => by
    have h1 := sum_bound (f := RP.ne) (ps := ps.take k) (fun p hp => hne p (List.mem_of_mem_take hp))
    have h2 := sum_bound (f := RP.np) (ps := ps.take k) (fun p hp => hnp p (List.mem_of_mem_take hp))
    rw [List.length_take] at h1 h2
    exact ⟨by show (List.map _ _).sum ≤ _; omega, by show (List.map _ _).sum ≤ _; omega⟩)
  have HNE := hid hne
  have HNP := hid hnp
  unfold maxLen at p2
  clear hv hps hH hne hnp hbE hbP
  go_enter Try.func49, Try.ntmps49
  go_wp2
  go_loopw [3, 4, 13] (fun s3 s4 i wr => ∃ k : Nat, k ≤ ps.length ∧ i = .int .i64 k ∧ Hid (wr.ownsRow w.heap.size 46 2 s3 (sumE (ps.take k)) (allE (ps.take k))) ∧ Hid (wr.ownsRow w.heap.size 53 1 s4 (sumP (ps.take k)) (allP (ps.take k))) ∧ Hid (((∀ p ∈ ps, p.se = nilS) → s3 = nilS) ∧ ((∀ p ∈ ps, p.sp = nilS) → s4 = nilS)) ∧ Hid (∀ g, s3.ownBlock = some g → s4.ownBlock ≠ some g) ∧ Hid (Below w.heap.size w wr)) (fun _ _ i _ => ps.length - (intOf i).toNat)
  case atStart => exact ⟨0, Nat.zero_le _, rfl, hid (World.ownsRow_nil _ _ _ _), hid (World.ownsRow_nil _ _ _ _), hid ⟨fun _ => rfl, fun _ => rfl⟩, hid (fun g hg => by cases hg), hid (Below.refl _ _)⟩
  case round =>
    obtain ⟨k, hk, rfl, HE, HP, HN, HD, HB⟩ := hrel
    obtain ⟨b3, d3, rfl⟩ := row_slice HE.out
    obtain ⟨b4, d4, rfl⟩ := row_slice HP.out
    have hB := HTE.out k
    have hz := HB.out.size
    by_cases hlt : k < ps.length
    · obtain ⟨p, hp⟩ : ∃ p, ps[k]? = some p := ⟨_, List.getElem?_eq_getElem hlt⟩
      have hpm : p ∈ ps := List.mem_of_getElem? hp
      obtain ⟨bv, offv, rfl, cv⟩ := (HV.out.new HB.out).one k (ptr p.pb) (by rw [List.getElem?_map, hp]; rfl)
      have hat := (HPS.out p hpm).new HB.out
      obtain ⟨a1, c1, e1, _⟩ := id hat.rowe
      obtain ⟨a2, c2, e2, _⟩ := id hat.rowp
      have q0 : wr.cell? ⟨p.pb, 0, none⟩ = some (.slice a1 p.ne c1) := by rw [cell_of_row _ _ _ _ _ _ hat.blk, e1]; rfl
      have q1 : wr.cell? ⟨p.pb, 1, none⟩ = some (.slice a2 p.np c2) := by rw [cell_of_row _ _ _ _ _ _ hat.blk, e2]; rfl
      have HR1 := hid (show Rw wr 2 (.slice a1 p.ne c1) p.ne p.ce by rw [← e1]; exact hat.rowe)
      have HR2 := hid (show Rw wr 1 (.slice a2 p.np c2) p.np p.cp by rw [← e2]; exact hat.rowp)
      have hB2 := HTE.out (k + 1)
      rw [sumE_take hp, sumP_take hp] at hB2
      have HSE := hid e1
      have HSP := hid e2
      have hki : (k : Int) < (ps.length : Int) := by omega
      have hk0 : (0 : Int) ≤ (k : Int) := by omega
      simp only [ptr] at cv
      generalize hx : p.pb = pb at *
      clear hat e1 e2
      go_wp2_with (first
        | (at_builtin; refine wpList_append_rw _ rfl (.tmp 17) (.tmp 21) 27 46 (.agg #[.slice none 0 0, .slice none 0 0]) 2 48 rfl Try.underlying27 Try.infoEntryZ rfl (by decide) w.heap.size _ _ _ rfl HE.out _ p.ne p.ce rfl HR1.out ?d1 ?d2 ?d3 ?_)
        | go_in)
      case d1 => unfold maxLen; omega
      case d2 => omega
      case d3 => omega
      intro v3 w3 ho3 hg3 hn3
      obtain ⟨b5, d5, rfl⟩ := row_slice ho3
      have HB3 : Hid (Below w.heap.size w w3) := hid (HB.out.grown hg3 HB.out.size (fun q hq => (HE.out.lt q hq).1))
      have HP3 := hid ((Spares.of_grown (S := fun i => (Value.slice b3 (sumE (ps.take k)) d3).ownBlock = some i) hg3 (fun k e => e)).row HP.out (fun g hg hs => HD.out g hs hg))
      have hat3 := (HPS.out p hpm).new HB3.out
      have HR3 := hid (show Rw w3 1 (.slice a2 p.np c2) p.np p.cp by rw [← HSP.out]; exact hat3.rowp)
      have q13 : w3.cell? ⟨pb, 1, none⟩ = some (.slice a2 p.np c2) := by rw [cell_of_row _ _ _ _ _ _ (show w3.heap[pb]? = _ by rw [← hx]; exact hat3.blk), HSP.out]; rfl
      have HE3 := hid ho3
      have HN3 := hid hn3
      have hz3 := HB3.out.size
      clear ho3 hg3 hn3 hat3 q0 q1 HE HP HR1 HR2 cv
      go_wp2_with (first
        | (at_builtin; refine wpList_append_rw _ rfl (.tmp 23) (.tmp 27) 64 53 (.pointer none) 1 8 rfl Try.underlying64 Try.infoPgpZ rfl (by decide) w.heap.size _ _ _ rfl HP3.out _ p.np p.cp rfl HR3.out ?d1 ?d2 ?d3 ?_)
        | go_in)
      case d1 => unfold maxLen; omega
      case d2 => omega
      case d3 => omega
      intro v4 w4 ho4 hg4 hn4
      obtain ⟨b6, d6, rfl⟩ := row_slice ho4
      have HB4 : Hid (Below w.heap.size w w4) := hid (HB3.out.grown hg4 HB3.out.size (fun q hq => (HP3.out.lt q hq).1))
      have HE4 := hid ((Spares.of_grown (S := fun i => (Value.slice b4 (sumP (ps.take k)) d4).ownBlock = some i) hg4 (fun k e => e)).row HE3.out (fun g hg hs => rows_apart HE3.out HP3.out (by decide) g hg hs))
      have HP4 := hid ho4
      have HN4 := hid hn4
      clear ho4 hg4 hn4 HE3 HP3 HR3 q13
      go_wp2_with fail
      go_roundw
      case rel =>
        refine ⟨k + 1, hlt, by go_num, ?_, ?_, hid ⟨fun h => ?_, fun h => ?_⟩, hid (rows_apart HE4.out HP4.out (by decide)), HB4⟩
        · rw [sumE_take hp, allE_take hp]; exact HE4
        · rw [sumP_take hp, allP_take hp]; exact HP4
        · rw [HN3.out (HSE.out.symm.trans (h p hpm))]; exact HN.out.1 h
        · rw [HN4.out (HSP.out.symm.trans (h p hpm))]; exact HN.out.2 h
      case measure => simp [intOf]; omega
    · have hkk : k = ps.length := by omega
      subst hkk
      rw [List.take_length] at HE HP hB
      simp only [List.take_length] at HN HD ⊢
      have HHW := hid (HH.out.new HB.out)
      have HRE := hid (rw_of_owns HE.out (fun u hu => by obtain ⟨x, y, z, rfl⟩ := HH.out.2 u hu; rfl))
      have HRP := hid (rw_of_owns HP.out (fun u hu => by obtain ⟨x, y, rfl, _⟩ := HH.out.1 u hu; rfl))
      clear HE HP HPS HNE HNP HTE HV hlt hk
      by_cases hE4 : sumE ps ≤ 4
      · by_cases hP4 : sumP ps ≤ 4
        · skip
          have HNP1 := newPage_first _ _ (sumE ps) (sumP ps) _ _ wr HRE.out HRP.out (by omega) (by omega) HHW.out
          generalize hnE : sumE ps = nE at *
          generalize hnP : sumP ps = nP at *
          go_wp2_with (go_at_call 23; refine HNP1.mono ?_; clear HNP1; rintro e w5 ⟨pb, se, sp, fv, rfl, hpg, hfi, hn1, hn2, hb5⟩
                       have HPG := hid hpg
                       have HFI := hid hfi
                       have HN1 := hid hn1
                       have HN2 := hid hn2
                       have HB5 := hid hb5
                       clear hpg hfi hn1 hn2 hb5)
          go_ret
          subst hnE hnP
          have hz5 := HB5.out.size
          have hbn := new_alloc w5 (.cells #[.pointer (some ⟨pb, 0, none⟩)] 53)
          refine ⟨_, rfl, fun _ => ⟨⟨pb, se, sp, fv, ?_, ((HPG.out.new hbn).lower (by omega)), HFI.out.back HH.out HB.out, fun h => HN1.out (HN.out.1 h), fun h => HN2.out (HN.out.2 h), ?_⟩⟩, fun h => absurd (And.intro hE4 hP4) h, HB.out.trans ((HB5.out.trans (hbn.mono hz5)).mono hz)⟩
          · exact owns_new w5 [.pointer (some ⟨pb, 0, none⟩)] (by omega) (by unfold maxLen; simp)
          · intro g hg hs
            have e1 : g = w5.heap.size := by simpa [Value.ownBlock] using hg.symm
            have := (HPG.out.rowp.lt g hs).2
            omega
        · skip
          have HC1 := cutE_any _ (sumE ps) (allE ps) (sumE ps / 2) wr HRE.out (Nat.div_le_self _ _) (by omega)
          have e2E : ((sumE ps : Nat) : Int) / 2 = ((sumE ps / 2 : Nat) : Int) := by omega
          have e2P : ((sumP ps : Nat) : Int) / 2 = ((sumP ps / 2 : Nat) : Int) := by omega
          have hhE : sumE ps / 2 ≤ sumE ps := Nat.div_le_self _ _
          have hhP : sumP ps / 2 ≤ sumP ps := Nat.div_le_self _ _
          generalize hnE : sumE ps = nE at *
          generalize hnP : sumP ps = nP at *
          generalize hhe : nE / 2 = hE at *
          generalize hhp : nP / 2 = hP at *
          go_wp2_with (first
            | (go_at_call 28; refine HC1.mono ?_; clear HC1; rintro e w5 ⟨⟨la, ra, rc, rfl, hl5, hr5, hn5⟩, hb5⟩
               have HC2 := cutP_any _ nP (allP ps) hP w5 (HRP.out.new hb5) hhP (by omega))
            | (go_at_call 59; refine HC2.mono ?_; clear HC2; rintro e w6 ⟨⟨lb, rb, rd, rfl, hl6, hr6, hn6⟩, hb6⟩
               have hb56 : Below wr.heap.size wr w6 := hb5.trans (hb6.mono hb5.size)
               have hH6 := HHW.out.new hb56
               have HNP1 := newPage_first _ _ hE hP _ _ w6 (hl5.new hb6) (by simpa using hl6) (by omega) (by omega) ⟨fun u hu => hH6.1 u (List.mem_of_mem_take hu), fun u hu => hH6.2 u (List.mem_of_mem_take hu)⟩)
            | (go_at_call 23; first
              | (refine HNP1.mono ?_; clear HNP1; rintro e w7 ⟨pb, se, sp, fv, rfl, hpg, hfi, hna, hnb, hb7⟩
                 have HNP2 := newPage_first _ _ (nE - hE) (nP - hP) _ _ w7 ((hr5.new hb6).new hb7) (show Rw w7 1 _ _ ((allP ps).drop hP) by simpa using hr6.new hb7) (by omega) (by omega) ⟨fun u hu => (hH6.new hb7).1 u (List.mem_of_mem_drop hu), fun u hu => hH6.2 u (List.mem_of_mem_drop hu)⟩)
              | (refine HNP2.mono ?_; clear HNP2; rintro e w8 ⟨pb2, se2, sp2, fv2, rfl, hpg2, hfi2, hnc, hnd, hb8⟩
                 have HPG := hid hpg
                 have HFI := hid hfi
                 have HPG2 := hid hpg2
                 have HFI2 := hid hfi2
                 have HNE := hid (And.intro hna hnc)
                 have HNP := hid (And.intro hnb hnd)
                 have HN5 := hid hn5
                 have HN6 := hid hn6
                 have HB6 := hid hb56
                 have HB7 := hid hb7
                 have HB8 := hid hb8
                 clear hpg hfi hpg2 hfi2 hna hnb hnc hnd hn5 hn6 hb56 hb5 hb6 hb7 hb8 hl5 hr5 hl6 hr6 hH6)))
          go_ret
          subst hhe hhp hnE hnP
          have hz6 := HB6.out.size
          have hz7 := HB7.out.size
          have hz8 := HB8.out.size
          have hbn := new_alloc w8 (.cells #[.pointer (some ⟨pb, 0, none⟩), .pointer (some ⟨pb2, 0, none⟩)] 53)
          have hBw6 : Below w.heap.size w w6 := HB.out.trans (HB6.out.mono hz)
          have hBw7 : Below w.heap.size w w7 := hBw6.trans (HB7.out.mono (by omega))
          have hl1 := pag_lt HPG.out
          have hH1 : Heads w ((allE ps).take (sumE ps / 2 * 2)) ((allP ps).take (sumP ps / 2)) := ⟨fun u hu => HH.out.1 u (List.mem_of_mem_take hu), fun u hu => HH.out.2 u (List.mem_of_mem_take hu)⟩
          have hH2 : Heads w ((allE ps).drop (sumE ps / 2 * 2)) ((allP ps).drop (sumP ps / 2)) := ⟨fun u hu => HH.out.1 u (List.mem_of_mem_drop hu), fun u hu => HH.out.2 u (List.mem_of_mem_drop hu)⟩
          refine ⟨_, rfl, fun h => absurd h (fun h => hP4 h.2), fun _ => ⟨⟨w7.heap.size, pb, se, sp, fv, pb2, se2, sp2, fv2, by omega, ?_, (((HPG.out.new HB8.out).new hbn).lower (by omega)), HFI.out.back hH1 hBw6, HPG2.out.new hbn, HFI2.out.back hH2 hBw7, hl1.1, hl1.2.1, hl1.2.2, ?_, fun h => ?_, fun h => ?_⟩⟩, hBw7.trans ((HB8.out.trans (hbn.mono hz8)).mono (by omega))⟩
          · exact owns_new w8 [.pointer (some ⟨pb, 0, none⟩), .pointer (some ⟨pb2, 0, none⟩)] (by omega) (by unfold maxLen; simp)
          · intro g hg hs
            have e1 : g = w8.heap.size := by simpa [Value.ownBlock] using hg.symm
            have := (HPG2.out.rowp.lt g hs).2
            omega
          · have h3 := HN.out.1 h
            obtain ⟨rfl, rfl, rfl⟩ := HN5.out h3
            simp only [nilS, Value.slice.injEq] at h3
            have h0 := h3.2.1
            exact ⟨HNE.out.1 (by rw [h0]; rfl), HNE.out.2 (by rw [h0]; rfl)⟩
          · have h3 := HN.out.2 h
            obtain ⟨rfl, rfl, rfl⟩ := HN6.out h3
            simp only [nilS, Value.slice.injEq] at h3
            have h0 := h3.2.1
            exact ⟨HNP.out.1 (by rw [h0]; rfl), HNP.out.2 (by rw [h0]; rfl)⟩
      · skip
        have HC1 := cutE_any _ (sumE ps) (allE ps) (sumE ps / 2) wr HRE.out (Nat.div_le_self _ _) (by omega)
        have e2E : ((sumE ps : Nat) : Int) / 2 = ((sumE ps / 2 : Nat) : Int) := by omega
        have e2P : ((sumP ps : Nat) : Int) / 2 = ((sumP ps / 2 : Nat) : Int) := by omega
        have hhE : sumE ps / 2 ≤ sumE ps := Nat.div_le_self _ _
        have hhP : sumP ps / 2 ≤ sumP ps := Nat.div_le_self _ _
        generalize hnE : sumE ps = nE at *
        generalize hnP : sumP ps = nP at *
        generalize hhe : nE / 2 = hE at *
        generalize hhp : nP / 2 = hP at *
        go_wp2_with (first
          | (go_at_call 28; refine HC1.mono ?_; clear HC1; rintro e w5 ⟨⟨la, ra, rc, rfl, hl5, hr5, hn5⟩, hb5⟩
             have HC2 := cutP_any _ nP (allP ps) hP w5 (HRP.out.new hb5) hhP (by omega))
          | (go_at_call 59; refine HC2.mono ?_; clear HC2; rintro e w6 ⟨⟨lb, rb, rd, rfl, hl6, hr6, hn6⟩, hb6⟩
             have hb56 : Below wr.heap.size wr w6 := hb5.trans (hb6.mono hb5.size)
             have hH6 := HHW.out.new hb56
             have HNP1 := newPage_first _ _ hE hP _ _ w6 (hl5.new hb6) (by simpa using hl6) (by omega) (by omega) ⟨fun u hu => hH6.1 u (List.mem_of_mem_take hu), fun u hu => hH6.2 u (List.mem_of_mem_take hu)⟩)
          | (go_at_call 23; first
            | (refine HNP1.mono ?_; clear HNP1; rintro e w7 ⟨pb, se, sp, fv, rfl, hpg, hfi, hna, hnb, hb7⟩
               have HNP2 := newPage_first _ _ (nE - hE) (nP - hP) _ _ w7 ((hr5.new hb6).new hb7) (show Rw w7 1 _ _ ((allP ps).drop hP) by simpa using hr6.new hb7) (by omega) (by omega) ⟨fun u hu => (hH6.new hb7).1 u (List.mem_of_mem_drop hu), fun u hu => hH6.2 u (List.mem_of_mem_drop hu)⟩)
            | (refine HNP2.mono ?_; clear HNP2; rintro e w8 ⟨pb2, se2, sp2, fv2, rfl, hpg2, hfi2, hnc, hnd, hb8⟩
               have HPG := hid hpg
               have HFI := hid hfi
               have HPG2 := hid hpg2
               have HFI2 := hid hfi2
               have HNE := hid (And.intro hna hnc)
               have HNP := hid (And.intro hnb hnd)
               have HN5 := hid hn5
               have HN6 := hid hn6
               have HB6 := hid hb56
               have HB7 := hid hb7
               have HB8 := hid hb8
               clear hpg hfi hpg2 hfi2 hna hnb hnc hnd hn5 hn6 hb56 hb5 hb6 hb7 hb8 hl5 hr5 hl6 hr6 hH6)))
        go_ret
        subst hhe hhp hnE hnP
        have hz6 := HB6.out.size
        have hz7 := HB7.out.size
        have hz8 := HB8.out.size
        have hbn := new_alloc w8 (.cells #[.pointer (some ⟨pb, 0, none⟩), .pointer (some ⟨pb2, 0, none⟩)] 53)
        have hBw6 : Below w.heap.size w w6 := HB.out.trans (HB6.out.mono hz)
        have hBw7 : Below w.heap.size w w7 := hBw6.trans (HB7.out.mono (by omega))
        have hl1 := pag_lt HPG.out
        have hH1 : Heads w ((allE ps).take (sumE ps / 2 * 2)) ((allP ps).take (sumP ps / 2)) := ⟨fun u hu => HH.out.1 u (List.mem_of_mem_take hu), fun u hu => HH.out.2 u (List.mem_of_mem_take hu)⟩
        have hH2 : Heads w ((allE ps).drop (sumE ps / 2 * 2)) ((allP ps).drop (sumP ps / 2)) := ⟨fun u hu => HH.out.1 u (List.mem_of_mem_drop hu), fun u hu => HH.out.2 u (List.mem_of_mem_drop hu)⟩
        refine ⟨_, rfl, fun h => absurd h (fun h => hE4 h.1), fun _ => ⟨⟨w7.heap.size, pb, se, sp, fv, pb2, se2, sp2, fv2, by omega, ?_, (((HPG.out.new HB8.out).new hbn).lower (by omega)), HFI.out.back hH1 hBw6, HPG2.out.new hbn, HFI2.out.back hH2 hBw7, hl1.1, hl1.2.1, hl1.2.2, ?_, fun h => ?_, fun h => ?_⟩⟩, hBw7.trans ((HB8.out.trans (hbn.mono hz8)).mono (by omega))⟩
        · exact owns_new w8 [.pointer (some ⟨pb, 0, none⟩), .pointer (some ⟨pb2, 0, none⟩)] (by omega) (by unfold maxLen; simp)
        · intro g hg hs
          have e1 : g = w8.heap.size := by simpa [Value.ownBlock] using hg.symm
          have := (HPG2.out.rowp.lt g hs).2
          omega
        · have h3 := HN.out.1 h
          obtain ⟨rfl, rfl, rfl⟩ := HN5.out h3
          simp only [nilS, Value.slice.injEq] at h3
          have h0 := h3.2.1
          exact ⟨HNE.out.1 (by rw [h0]; rfl), HNE.out.2 (by rw [h0]; rfl)⟩
        · have h3 := HN.out.2 h
          obtain ⟨rfl, rfl, rfl⟩ := HN6.out h3
          simp only [nilS, Value.slice.injEq] at h3
          have h0 := h3.2.1
          exact ⟨HNP.out.1 (by rw [h0]; rfl), HNP.out.2 (by rw [h0]; rfl)⟩
end Go.Proofs.Ytjfipejfejmlaaa
