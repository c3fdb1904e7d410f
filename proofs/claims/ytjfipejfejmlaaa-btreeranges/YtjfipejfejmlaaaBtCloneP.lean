/- Contracts of page.clone, Tree.Clone. -/
import Derived.Test.YtjfipejfejmlaaaBtCloneA
namespace Go.Proofs.Ytjfipejfejmlaaa
open Go.RowKit Go.Shelf
set_option linter.unusedVariables false
set_option linter.unusedSimpArgs false
set_option maxRecDepth 20000

/-- Elements that hold what others hold, in blocks from B on. -/
structure CopyOf (h B : Nat) (W : World) (qs ps : List (Elem h)) (K : Nat → Prop) : Prop where
  lies : ∀ q ∈ qs, Lies h K W q
  flat : (flatL h qs).map EntV.ent = (flatL h ps).map EntV.ent
  len : qs.length = ps.length
  ok : (∀ e ∈ ps, OkE h e) → ∀ e ∈ qs, OkE h e
  one : ∀ i, occL h qs i ≤ 1
  low : ∀ i, 0 < occL h qs i → B ≤ i
  frees : ∀ i, K i → B ≤ i ∧ i < W.heap.size ∧ occL h qs i = 0

section
variable {h B : Nat} {W W' : World} {qs ps : List (Elem h)} {K : Nat → Prop}

theorem CopyOf.keep {R : Nat → Prop} (hc : CopyOf h B W qs ps K) (hk : Spares R W W') (h1 : ∀ i, 0 < occL h qs i → ¬ R i) (h2 : ∀ i, K i → ¬ R i) : CopyOf h B W' qs ps K :=
  ⟨fun q hq => (hc.lies q hq).keep hk (fun i hi => h1 i (by have := occ_mem hq i; omega)) h2, hc.flat, hc.len, hc.ok, hc.one, hc.low, fun i hi => ⟨(hc.frees i hi).1, Nat.lt_of_lt_of_le (hc.frees i hi).2.1 hk.size, (hc.frees i hi).2.2⟩⟩

theorem CopyOf.new (hc : CopyOf h B W qs ps K) (hb : Below W.heap.size W W') : CopyOf h B W' qs ps K :=
  hc.keep (R := fun _ => False) (Spares.of_new hb) (fun _ _ => id) (fun _ _ => id)

theorem CopyOf.lt (hc : CopyOf h B W qs ps K) (i : Nat) (hi : 0 < occL h qs i) : i < W.heap.size := liesL_lt hc.lies i hi

theorem copyOf_nil (h B : Nat) (W : World) : CopyOf h B W [] [] (fun _ => False) :=
  ⟨fun q hq => (by cases hq), rfl, rfl, fun _ e he => (by cases he), fun i => (by rw [occL_nil]; omega), fun i hi => (by rw [occL_nil] at hi; omega), fun i hi => hi.elim⟩

theorem CopyOf.snoc {C : Nat} {q p : Elem h} {K' : Nat → Prop} (hc : CopyOf h B W qs ps K) (hd : CopyOf h C W [q] [p] K') (hBC : B ≤ C) (hlt : ∀ i, 0 < occL h qs i → i < C) (hKl : ∀ i, K i → i < C) : CopyOf h B W (qs ++ [q]) (ps ++ [p]) (fun i => K i ∨ K' i) := by
  have hq1 : ∀ i, occL h [q] i = occ h q i := fun i => by rw [occL_cons, occL_nil, Nat.add_zero]
  refine ⟨fun x hx => ?_, ?_, by simp [hc.len], fun hok x hx => ?_, fun i => ?_, fun i hi => ?_, fun i hi => ?_⟩
  · rcases List.mem_append.1 hx with hx | hx
    · exact (hc.lies x hx).mono fun i hi => .inl hi
    · exact (hd.lies x hx).mono fun i hi => .inr hi
  · rw [flatL_append, flatL_append, List.map_append, List.map_append, hc.flat, hd.flat]
  · rcases List.mem_append.1 hx with hx | hx
    · exact hc.ok (fun e he => hok e (by simp [he])) x hx
    · exact hd.ok (fun e he => hok e (by simp only [List.mem_append]; exact .inr he)) x hx
  · rw [occL_append]
    have h1 := hc.one i
    have h2 := hd.one i
    by_cases h3 : 0 < occL h qs i
    · have h4 := hlt i h3
      rcases Nat.eq_zero_or_pos (occL h [q] i) with h5 | h5
      · omega
      · have := hd.low i h5; omega
    · omega
  · rw [occL_append] at hi
    by_cases h3 : 0 < occL h qs i
    · exact hc.low i h3
    · have := hd.low i (by omega); omega
  · rw [occL_append]
    rcases hi with hi | hi
    · obtain ⟨h1, h2, h3⟩ := hc.frees i hi
      refine ⟨h1, h2, ?_⟩
      rcases Nat.eq_zero_or_pos (occL h [q] i) with h5 | h5
      · omega
      · have := hd.low i h5
        have := hKl i hi
        omega
    · obtain ⟨h1, h2, h3⟩ := hd.frees i hi
      refine ⟨by omega, h2, ?_⟩
      rcases Nat.eq_zero_or_pos (occL h qs i) with h5 | h5
      · omega
      · have := hlt i h5
        omega
end

theorem copy_page {h B : Nat} {w1 w2 : World} {es' es : List (Elem h)} {K : Nat → Prop} {p : Pg h} {pb : Nat} {se sp fv : Value} (hc : CopyOf h B w1 es' es K) (hpe : p.es = es) (hB : B ≤ w1.heap.size) (hpag : Pag w2 w1.heap.size pb se sp fv (neO h es') (npO h es') (ceO h es') (cpO h es'))
    (hfi : FirstIs w1 fv (neO h es') (npO h es') (ceO h es') (cpO h es')) (hne : 0 < h → se = nilS) (hnp : h = 0 → sp = nilS) (hb : Below w1.heap.size w1 w2) :
    ∃ q : Pg h, q.pb = pb ∧ q.es = es' ∧ CopyOf (h + 1) B w2 [q] [p] K := by
  obtain ⟨sv, hl, hr, _⟩ := page_lies hpag (fvL_of hc.lies hfi) (fun e he => (hc.lies e he).new hb) hne hnp
  obtain ⟨o1, o2, o3⟩ := occ_new (Nat.le_refl _) hc.lies hl hr hpag.low
  have hz := hb.size
  have hq1 : ∀ i, occL (h + 1) [(⟨pb, sv, fv, es'⟩ : Pg h)] i = occ (h + 1) (⟨pb, sv, fv, es'⟩ : Pg h) i := fun i => by rw [occL_cons, occL_nil, Nat.add_zero]
  refine ⟨⟨pb, sv, fv, es'⟩, rfl, rfl, ⟨fun q hq => by rw [List.mem_singleton.1 hq]; exact hl, ?_, rfl, fun hok e he => ?_, fun i => ?_, fun i hi => ?_, fun i hi => ?_⟩⟩
  · rw [flatL_cons, flatL_cons, flatL_nil, List.append_nil, List.append_nil, flat_pg, flat_pg, hpe]
    exact hc.flat
  · rw [List.mem_singleton.1 he]
    obtain ⟨k1, k2, k3⟩ := okE_pg.1 (hok p (by simp))
    rw [hpe] at k1 k2 k3
    exact okE_pg.2 ⟨by show 2 ≤ es'.length; rw [hc.len]; exact k1, by show es'.length ≤ 4; rw [hc.len]; exact k2, hc.ok k3⟩
  · rw [hq1]
    by_cases hi : i < w1.heap.size
    · rw [o1 i hi]; exact hc.one i
    · exact o3 i (by omega)
  · rw [hq1] at hi
    by_cases hlt : i < w1.heap.size
    · rw [o1 i hlt] at hi; exact hc.low i hi
    · omega
  · obtain ⟨k1, k2, k3⟩ := hc.frees i hi
    rw [hq1, o1 i k2]
    exact ⟨k1, by omega, k3⟩

/-- Entries copied. -/
theorem copyOf_rowed {B : Nat} {W : World} {rv : Value} {ys xs : List EntV} (hR : Rowed B W rv ys) (hs : ys.map EntV.ent = xs.map EntV.ent) : CopyOf 0 B W (ys : List (Elem 0)) (xs : List (Elem 0)) (fun i => ∃ y ∈ ys, y.kv.ownBlock = some i ∨ y.vv.ownBlock = some i) := by
  refine ⟨fun q hq => ⟨(hR.cps q hq).1.says, (hR.cps q hq).2.says, fun g hg => ⟨q, hq, .inl hg⟩, fun g hg => ⟨q, hq, .inr hg⟩⟩, by rw [flatL_zero, flatL_zero]; exact hs, ?_, fun _ _ _ => trivial, fun i => by rw [occL_zero]; omega, fun i hi => by rw [occL_zero] at hi; omega, fun i hi => ?_⟩
  · have := congrArg List.length hs
    simpa using this
  · obtain ⟨y, hy, hi⟩ := hi
    rw [occL_zero]
    rcases hi with hi | hi
    · exact ⟨((hR.cps y hy).1.lt i hi).1, ((hR.cps y hy).1.lt i hi).2, rfl⟩
    · exact ⟨((hR.cps y hy).2.lt i hi).1, ((hR.cps y hy).2.lt i hi).2, rfl⟩

set_option maxHeartbeats 8000000 in
theorem pclone_any : ∀ (h : Nat) (K : Nat → Prop) (p : Pg h) (w : World), Lies (h + 1) K w p → p.es.length ≤ 4 → (∀ e ∈ p.es, OkE h e) → (∀ x ∈ flat (h + 1) p, Fine x.ent) →
    Calls Try.prog 24 #[.pointer (some ⟨p.pb, 0, none⟩)] w fun e w' => ∃ (q : Pg h) (K' : Nat → Prop), e = .returned (.pointer (some ⟨q.pb, 0, none⟩)) ∧ CopyOf (h + 1) w.heap.size w' [q] [p] K' ∧ q.es.length = p.es.length ∧ Below w.heap.size w w'
  | 0, K, p, w, hl, hlen, hok, hf => by
    obtain ⟨hat, _, _⟩ := lies_pg.1 hl
    obtain ⟨asv, csv, hsv⟩ := row_slice hat.row
    have c0 : w.cell? ⟨p.pb, 0, none⟩ = some (.slice asv p.es.length csv) := by rw [cell_of_row _ _ _ _ _ _ hat.blk, hsv]; rfl
    have c1 : w.cell? ⟨p.pb, 1, none⟩ = some (.slice none 0 0) := by rw [cell_of_row _ _ _ _ _ _ hat.blk]; rfl
    have hE := leaf_ents hl
    rw [hsv] at hE
    have hlen0 : (p.es : List EntV).length ≤ 4 := hlen
    have HC := cloneAll_any _ p.es w hE (fun x hx => hf x (by rw [flat_pg, flatL_zero]; exact hx)) (by omega)
    generalize hpb : p.pb = pb at *
    clear hat hsv hE hf hl hok hpb
    go_enter Try.func24, Try.ntmps24
    go_wp2
    go_loopw [3, 11] (fun s3 i wr => s3 = .slice none 0 0 ∧ i = .int .i64 0 ∧ wr = w) (fun _ i _ => 0)
    case atStart => exact ⟨rfl, rfl, rfl⟩
    case round =>
      obtain ⟨rfl, rfl, rfl⟩ := hrel
      go_wp2_with (first
        | (go_at_call 41; refine HC.mono ?_; clear HC; rintro e w1 ⟨rv, ys, rfl, hR, hS, hN, hb⟩
           obtain ⟨a1, d1, rfl⟩ := row_slice hR.row
           have hcp := copyOf_rowed hR hS
           have hyl : ys.length = (p.es : List EntV).length := hcp.len
           have hH := heads_of (h := 0) (L := ys) hcp.lies
           have HNP := newPage_first _ nilS ys.length 0 (rowC 0 ys) [] w1 (rw_of_owns hR.row (fun u hu => by obtain ⟨x9, y9, z9, e9⟩ := hH.2 u hu; rw [e9]; rfl)) (rw_nil _ _) (by omega) (by omega) hH
           have HCP := hid hcp
           have HB := hid hb
           have HYL := hid hyl
           clear hR hS hN hb hcp hyl hH)
        | (go_at_call 23; refine HNP.mono ?_; clear HNP; rintro e w2 ⟨pb2, se, sp, fv, rfl, hpag, hfi, hne, hnp, hb2⟩
           obtain ⟨q, hq1, hq2, hq3⟩ := copy_page (p := p) HCP.out rfl HB.out.size hpag hfi (fun h => by omega) (fun _ => by first | exact hnp rfl | exact hnp trivial | simpa using hnp) hb2
           have HQ := hid hq3
           have HB2 := htr HB hb2
           clear hpag hfi hne hnp hb2 hq3))
      go_ret
      exact ⟨q, _, by rw [hq1]; rfl, HQ.out, by rw [hq2]; exact HYL.out, HB2.out⟩
  | h + 1, K, p, w, hl, hlen, hok, hf => by
    have IH := pclone_any h K
    obtain ⟨hat, _, hles⟩ := lies_pg.1 hl
    have hrow := hat.row
    rw [rowC_pg] at hrow
    have hrw := rw_of_owns (s := 1) hrow (by intro u hu; obtain ⟨x, _, rfl⟩ := List.mem_map.1 hu; rfl)
    obtain ⟨asv, csv, hsv⟩ := row_slice hat.row
    have c0 : w.cell? ⟨p.pb, 0, none⟩ = some (.slice none 0 0) := by rw [cell_of_row _ _ _ _ _ _ hat.blk]; rfl
    have c1 : w.cell? ⟨p.pb, 1, none⟩ = some (.slice asv p.es.length csv) := by rw [cell_of_row _ _ _ _ _ _ hat.blk, hsv]; rfl
    rw [hsv] at hrw
    have hpl := block_lt hat.blk
    have HRW := hid hrw
    have HL := hid hles
    have HOK := hid hok
    have HF : Hid (∀ q ∈ (p.es : List (Pg h)), ∀ x ∈ flat (h + 1) q, Fine x.ent) := hid (fun q hq x hx => hf x (by rw [flat_pg]; exact List.mem_flatMap.2 ⟨q, hq, hx⟩))
    have HIH := hid IH
    obtain ⟨_, _, _, _, hcm, _⟩ := id hrw
    unfold maxLen at hcm
    obtain ⟨i0, hi, hz0, hzz1, hzz2⟩ := info_parts Try.infoPgpZ
    generalize hpb : p.pb = pb at *
    have hlen4 : p.es.length ≤ 4 := hlen
    clear hat hrow hrw hsv hles hok hf hl IH hpb
    go_enter Try.func24, Try.ntmps24
    go_wp2
    go_loopw [3, 11] (fun s3 i wr => ∃ k : Nat, k ≤ p.es.length ∧ i = .int .i64 k ∧ ∃ (qs : List (Pg h)) (K1 : Nat → Prop), Hid (CopyOf (h + 1) w.heap.size wr qs ((p.es : List (Pg h)).take k) K1) ∧ Hid (wr.ownsRow w.heap.size 53 1 s3 qs.length (rowC (h + 1) qs)) ∧ Hid (∀ g, s3.ownBlock = some g → occL (h + 1) qs g = 0 ∧ ¬ K1 g) ∧ Hid (Below w.heap.size w wr)) (fun _ i _ => p.es.length - (intOf i).toNat)
    case atStart => exact ⟨0, Nat.zero_le _, rfl, [], fun _ => False, hid (copyOf_nil _ _ _), hid (World.ownsRow_nil _ _ _ _), hid (fun g hg => by cases hg), hid (Below.refl _ _)⟩
    case round =>
      obtain ⟨k, hk, rfl, qs, K1, HC, HR, HD, HB⟩ := hrel
      obtain ⟨b3, d3, rfl⟩ := row_slice HR.out
      have hql : qs.length = k := by have := HC.out.len; rw [List.length_take] at this; have h9 : k ≤ (p.es : List (Pg h)).length := hk; omega
      have hz := HB.out.size
      by_cases hlt : k < p.es.length
      · obtain ⟨q0, hq0⟩ : ∃ q0, (p.es : List (Pg h))[k]? = some q0 := ⟨_, List.getElem?_eq_getElem hlt⟩
        have hqm : q0 ∈ (p.es : List (Pg h)) := List.mem_of_getElem? hq0
        obtain ⟨b, off, rfl, ck⟩ := (HRW.out.new HB.out).one k (ptr q0.pb) (by rw [List.getElem?_map, hq0]; rfl)
        simp only [ptr] at ck
        have hoq := okE_pg.1 (HOK.out q0 hqm)
        have HCL := HIH.out q0 wr ((HL.out q0 hqm).new HB.out) hoq.2.1 hoq.2.2 (HF.out q0 hqm)
        have hki : (k : Int) < (p.es.length : Int) := by omega
        have hk0 : (0 : Int) ≤ (k : Int) := by omega
        have HQ0 := hid hq0
        have HQL := hid hql
        have hql2 : qs.length < 1000 := by omega
        generalize hq0b : q0.pb = q0b at *
        clear hq0 hqm hoq hql
        go_wp2_with (first
          | (go_at_call 24; refine HCL.mono ?_; clear HCL; rintro e w4 ⟨q, K2, rfl, hcq, _, hb4⟩
             have hz4 := hb4.size
             have hbA := new_alloc w4 (.cells #[.pointer (some ⟨q.pb, 0, none⟩)] 53)
             have hzA : (w4.alloc (.cells #[.pointer (some ⟨q.pb, 0, none⟩)] 53)).heap.size = w4.heap.size + 1 := World.size_alloc _ _
             have hro := (Spares.of_new (S := fun _ => False) (hb4.trans (hbA.mono hb4.size))).row HR.out (fun _ _ => id)
             have HSN := hid (((HC.out.new hb4).snoc hcq hz (fun i hi => HC.out.lt i hi) (fun i hi => (HC.out.frees i hi).2.1)).new hbA)
             have HCQ := hid hcq
             have HB4 := htr HB hb4
             have hnews := one_cell w4 (.pointer (some ⟨q.pb, 0, none⟩)) 53
             clear hcq hb4)
          | (at_builtin; refine wpList_append_lies _ rfl (.tmp 15) (.tmp 18) 64 rfl w.heap.size 53 i0 _ 1 8 Try.underlying64 hi hz0 hzz1 hzz2 rfl (by decide) _ qs.length _ rfl hro ⟨w4.heap.size, 0, none⟩ 1 1 [.pointer (some ⟨q.pb, 0, none⟩)] rfl rfl hnews ?d1 (by decide) ?d2 ?d3 ?d4 _ rfl ?_))
        case d1 => intro u hu; simp at hu; subst hu; rfl
        case d2 => unfold maxLen; omega
        case d3 => omega
        case d4 => simp; omega
        intro g cap w5 ho5 hg5 hat5 hgl5
        have hrb : ∀ i, (Value.slice b3 qs.length d3).ownBlock = some i → i < wr.heap.size := fun i hi => (HR.out.lt i hi).2
        have hsp5 := Spares.of_grown (S := fun i => (Value.slice b3 qs.length d3).ownBlock = some i) hg5 (fun k e => e)
        have HN5 := hid (HSN.out.keep hsp5 (fun i hi hrow => by
            have h1 := (HD.out i hrow).1
            rw [occL_append] at hi
            have h2 := HCQ.out.low i (by omega)
            have h3 := hrb i hrow
            omega) (fun i hi hrow => by
            rcases hi with hi | hi
            · exact (HD.out i hrow).2 hi
            · have h2 := (HCQ.out.frees i hi).1
              have h3 := hrb i hrow
              omega))
        have hro5 : w5.ownsRow w.heap.size 53 1 (.slice (some ⟨g, 0, none⟩) (qs.length + 1) cap) (qs ++ [q]).length (rowC (h + 1) (qs ++ [q])) := by
          rw [List.length_append, rowC_append]
          exact ho5
        have HR5 := hid hro5
        have HB5 : Hid (Below w.heap.size w w5) := hid ((HB4.out.trans (hbA.mono HB4.out.size)).grown hg5 (by simp; omega) (fun q9 hq9 => (HR.out.lt q9 hq9).1))
        have HD5 : Hid (∀ g', (Value.slice (some ⟨g, 0, none⟩) (qs.length + 1) cap).ownBlock = some g' → occL (h + 1) (qs ++ [q]) g' = 0 ∧ ¬ (K1 g' ∨ K2 g')) := hid (fun g' hg' => by
          have e : g = g' := by simpa [Value.ownBlock] using hg'
          subst e
          rw [occL_append]
          rcases hat5 with h1 | h1
          · have h3 := hrb g h1
            obtain ⟨h4, h5⟩ := HD.out g h1
            refine ⟨?_, fun hK => hK.elim h5 fun hK => ?_⟩
            · rcases Nat.eq_zero_or_pos (occL (h + 1) [q] g) with h6 | h6
              · omega
              · have := HCQ.out.low g h6; omega
            · have := (HCQ.out.frees g hK).1; omega
          · have h1' : g = w4.heap.size + 1 := by omega
            refine ⟨?_, fun hK => ?_⟩
            · rcases Nat.eq_zero_or_pos (occL (h + 1) qs g) with h6 | h6
              · rcases Nat.eq_zero_or_pos (occL (h + 1) [q] g) with h7 | h7
                · omega
                · have := HCQ.out.lt g h7; omega
              · have := HC.out.lt g h6; omega
            · rcases hK with hK | hK
              · have := (HC.out.frees g hK).2.1; omega
              · have := (HCQ.out.frees g hK).2.1; omega)
        clear ho5 hg5 hat5 hgl5 hro hnews hbA hro5
        go_wp2_with fail
        go_roundw
        case rel =>
          refine ⟨k + 1, hlt, by go_num, qs ++ [q], fun i => K1 i ∨ K2 i, ?_, HR5, HD5, HB5⟩
          rw [List.take_add_one, HQ0.out]
          exact HN5
        case measure => simp [intOf]; omega
      · have hki : (p.es.length : Int) ≤ (k : Int) := by omega
        have hkk : k = p.es.length := by omega
        subst hkk
        rw [show (p.es : List (Pg h)).take p.es.length = p.es from List.take_length] at HC
        have q0 := (HB.out.cell (p := ⟨pb, 0, none⟩) hpl).trans c0
        have HCA := cloneAll_any (.slice none 0 0) [] wr (ents_nil _ _ _ _ _ rfl (by unfold maxLen; omega)) (fun x hx => by cases hx) (by simp)
        have hql3 : qs.length < 1000 := by omega
        have HQL := hid hql
        clear hql
        go_wp2_with (first
          | (go_at_call 41; refine HCA.mono ?_; clear HCA; rintro e w1 ⟨rv, ys, rfl, hR, hS, hN, hb⟩
             have hrv : rv = .slice none 0 0 := by first | exact hN rfl | exact hN trivial | simpa [nilS] using hN
             subst hrv
             have hHd := heads_of (h := h + 1) (L := qs) (HC.out.new hb).lies
             have HNP := newPage_first nilS _ 0 qs.length [] (rowC (h + 1) qs) w1 (rw_nil _ _) (rw_of_owns ((Spares.of_new (S := fun _ => False) hb).row HR.out (fun _ _ => id)) (by rw [rowC_pg]; intro u hu; obtain ⟨x, _, rfl⟩ := List.mem_map.1 hu; rfl)) (by omega) (by omega) hHd
             have HC1 := hid (HC.out.new hb)
             have HB1 := htr HB hb
             clear hR hS hN hb hHd)
          | (go_at_call 23; refine HNP.mono ?_; clear HNP; rintro e w2 ⟨pb2, se, sp, fv, rfl, hpag, hfi, hne, hnp, hb2⟩
             obtain ⟨q, hq1, hq2, hq3⟩ := copy_page (h := h + 1) (p := p) HC1.out rfl HB1.out.size hpag hfi (fun _ => by first | exact hne rfl | exact hne trivial | simpa using hne) (fun h => by omega) hb2
             have HQ := hid hq3
             have HB2 := htr HB1 hb2
             clear hpag hfi hne hnp hb2 hq3))
        go_ret
        exact ⟨q, _, by rw [hq1]; rfl, HQ.out, by rw [hq2]; exact HQL.out, HB2.out⟩

set_option maxHeartbeats 4000000 in
theorem btx_clone {S : Nat → Prop} {w : World} {tb d : Nat} {P : List (List Ent)} (h : BTx S w tb P d) :
    Calls Try.prog 10 #[.pointer (some ⟨tb, 0, none⟩)] w fun e w' => ∃ tb' S' P' d', e = .returned (.pointer (some ⟨tb', 0, none⟩)) ∧ BTx S' w' tb' P' d' ∧ P'.flatten = P.flatten ∧ (∀ i, S' i → w.heap.size ≤ i) ∧ Below w.heap.size w w' := by
  obtain ⟨K, H, T, h1, h2, h3, h4, rfl, rfl, h7⟩ := h
  have c0 : w.cell? ⟨tb, 0, none⟩ = some (.pointer (some ⟨T.pb, 0, none⟩)) := by rw [cell_of_row _ _ _ _ _ _ h1.tree]; rfl
  have c1 : w.cell? ⟨tb, 1, none⟩ = some (.int .i64 ((flat (H + 1) T).length : Nat)) := by rw [cell_of_row _ _ _ _ _ _ h1.tree]; rfl
  have htl := block_lt h1.tree
  have hokr := okR_all h2
  have HC := pclone_any H K T w.drew (h1.lies.new (below_drewN _ w 1)) hokr.1 hokr.2 h4
  have hS0 : w.drew.cell? ⟨tb, 0, none⟩ = some (.pointer (some ⟨T.pb, 0, none⟩)) ∧ w.drew.cell? ⟨tb, 1, none⟩ = some (.int .i64 ((flat (H + 1) T).length : Nat)) := ⟨c0, c1⟩
  have H1 := hid h1
  have H2 := hid h2
  have H3 := hid h3
  have H4 := hid h4
  have HN := hid (rfl : (flat (H + 1) T).length = (flat (H + 1) T).length)
  generalize hTb : T.pb = rb at *
  clear h1 h2 h3 h4 h7 hokr hTb
  go_enter Try.func10, Try.ntmps10
  go_wp2_with fail
  go_region_held3 (fun w' => w'.cell? ⟨tb, 0, none⟩ = some (.pointer (some ⟨rb, 0, none⟩)) ∧ w'.cell? ⟨tb, 1, none⟩ = some (.int .i64 ((flat (H + 1) T).length : Nat)))
    (first | assumption | go_keep)
    ((go_at_call 24; refine HC.mono ?_; clear HC; rintro e w3 ⟨q, K', rfl, hcp, hql, hb3⟩
      have hS3 : w3.cell? ⟨tb, 0, none⟩ = some (.pointer (some ⟨rb, 0, none⟩)) ∧ w3.cell? ⟨tb, 1, none⟩ = some (.int .i64 ((flat (H + 1) T).length : Nat)) := ⟨(hb3.cell (p := ⟨tb, 0, none⟩) htl).trans hS0.1, (hb3.cell (p := ⟨tb, 1, none⟩) htl).trans hS0.2⟩
      have hz3 : w.heap.size ≤ w3.heap.size := hb3.size
      have hbn := new_alloc w3 (.cells #[.pointer (some ⟨q.pb, 0, none⟩), .int .i64 ((flat (H + 1) T).length : Nat)] 56)
      have hS4 : (w3.alloc (.cells #[.pointer (some ⟨q.pb, 0, none⟩), .int .i64 ((flat (H + 1) T).length : Nat)] 56)).cell? ⟨tb, 0, none⟩ = some (.pointer (some ⟨rb, 0, none⟩)) ∧ (w3.alloc (.cells #[.pointer (some ⟨q.pb, 0, none⟩), .int .i64 ((flat (H + 1) T).length : Nat)] 56)).cell? ⟨tb, 1, none⟩ = some (.int .i64 ((flat (H + 1) T).length : Nat)) := ⟨(hbn.cell (p := ⟨tb, 0, none⟩) (by show tb < _; omega)).trans hS3.1, (hbn.cell (p := ⟨tb, 1, none⟩) (by show tb < _; omega)).trans hS3.2⟩
      have HCP := hid hcp
      have HQL := hid hql
      have HB3 : Hid (Below w.heap.size w w3) := hid ((below_drewN _ w 1).trans hb3)
      clear hcp hql hb3))
  go_wp2_with fail
  go_ret
  have hq1 : ∀ i, occL (H + 1) [q] i = occ (H + 1) q i := fun i => by rw [occL_cons, occL_nil, Nat.add_zero]
  have hql := HCP.out.lies q (by simp)
  have hfl : (flat (H + 1) q).map EntV.ent = (flat (H + 1) T).map EntV.ent := by
    have := HCP.out.flat
    rw [flatL_cons, flatL_cons, flatL_nil, List.append_nil, List.append_nil] at this
    exact this
  have hfn : (flat (H + 1) q).length = (flat (H + 1) T).length := by
    have := congrArg List.length hfl
    simpa using this
  have hlow : ∀ i, 0 < occ (H + 1) q i → w.heap.size ≤ i ∧ i < w3.heap.size := fun i hi => ⟨HCP.out.low i (by rw [hq1]; exact hi), hql.lt i hi⟩
  refine ⟨w3.heap.size, fun i => 0 < occ (H + 1) q i ∨ K' i ∨ i = w3.heap.size, pagesV q, H + 1, rfl, ⟨K', H, q, ⟨?_, hql.new hbn, fun i => ?_, fun i hi => ?_⟩, ?_, ?_, fun x hx => ?_, rfl, rfl, fun i => Iff.rfl⟩, ?_, fun i hi => ?_, HB3.out.trans (hbn.mono hz3)⟩
  · rw [hfn]
    exact World.alloc_heap_new _ _
  · have h1 := HCP.out.one i
    rw [hq1] at h1
    by_cases hi : w3.heap.size = i
    · rw [if_pos hi]
      rcases Nat.eq_zero_or_pos (occ (H + 1) q i) with h | h
      · omega
      · have := (hlow i h).2; omega
    · rw [if_neg hi]; omega
  · obtain ⟨k1, k2, k3⟩ := HCP.out.frees i hi
    rw [hq1] at k3
    exact ⟨k3, by omega, by have := hbn.size; omega⟩
  · have hlen := HQL.out
    have hok := HCP.out.ok
    cases H with
    | zero =>
      have : T.es.length ≤ 4 := H2.out
      show q.es.length ≤ 4
      omega
    | succ H =>
      exact hok (fun e he => by rw [List.mem_singleton.1 he]; exact H2.out) q (by simp)
  · exact (risesV_iff _).1 (by rw [hfl]; exact (risesV_iff _).2 H3.out)
  · have : x.ent ∈ (flat (H + 1) T).map EntV.ent := by rw [← hfl]; exact List.mem_map.2 ⟨x, hx, rfl⟩
    obtain ⟨y, hy, he⟩ := List.mem_map.1 this
    rw [← he]
    exact H4.out y hy
  · rw [pagesV_flat, pagesV_flat]
    exact hfl
  · rcases hi with h | h | h
    · exact (hlow i h).1
    · exact (HCP.out.frees i h).1
    · omega
end Go.Proofs.Ytjfipejfejmlaaa
