/- Contract of Range. -/
import Derived.Test.YtjfipejfejmlaaaBtRange0
namespace Go.Proofs.Ytjfipejfejmlaaa
open Go.RowKit Go.Shelf
set_option linter.unusedVariables false
set_option linter.unusedSimpArgs false
set_option maxRecDepth 20000
attribute [local go_sem] Oper.semAt_some

/-- Five new blocks: three, and two more. -/
theorem alloc5 (w : World) (o1 o2 o3 o4 o5 : Obj) : (((((w.alloc o1).alloc o2).alloc o3).alloc o4).alloc o5).heap[w.heap.size]? = some o1 ∧ (((((w.alloc o1).alloc o2).alloc o3).alloc o4).alloc o5).heap[w.heap.size + 1]? = some o2 ∧ (((((w.alloc o1).alloc o2).alloc o3).alloc o4).alloc o5).heap[w.heap.size + 2]? = some o3 ∧
    (((((w.alloc o1).alloc o2).alloc o3).alloc o4).alloc o5).heap[w.heap.size + 3]? = some o4 ∧ (((((w.alloc o1).alloc o2).alloc o3).alloc o4).alloc o5).heap[w.heap.size + 4]? = some o5 ∧ Below w.heap.size w (((((w.alloc o1).alloc o2).alloc o3).alloc o4).alloc o5) ∧ (((((w.alloc o1).alloc o2).alloc o3).alloc o4).alloc o5).heap.size = w.heap.size + 5 := by
  obtain ⟨c1, c2, c3, hB, hz⟩ := alloc3 w o1 o2 o3
  generalize ((w.alloc o1).alloc o2).alloc o3 = w3 at *
  obtain ⟨d1, d2, hB2, hz2⟩ := alloc2 w3 o4 o5
  rw [hz] at d1 d2 hB2 hz2
  exact ⟨(hB2.block _ (by omega)).trans c1, (hB2.block _ (by omega)).trans c2, (hB2.block _ (by omega)).trans c3, d1, d2, hB.trans (hB2.mono (by omega)), hz2⟩

set_option maxHeartbeats 8000000 in
theorem btx_range {S : Nat → Prop} {w : World} {tb d : Nat} {P : List (List Ent)} (fv tv : Value) (a b : List UInt8) (en : Bool) (h : BTx S w tb P d) (ha : Says w fv a) (hb : Says w tv b) (hn : P.flatten.length < 100000) :
    Calls Try.prog 14 #[.pointer (some ⟨tb, 0, none⟩), .agg #[fv, tv, .bool en]] w fun e w' => ∃ sv xs, e = .returned sv ∧ Rowed w.heap.size w' sv xs ∧ xs.map EntV.ent = rangeL P.flatten a b en ∧ Below w.heap.size w w' := by
  have hd := btx_height h hn
  obtain ⟨K, H, T, h1, h2, h3, h4, rfl, rfl, h7⟩ := h
  rw [pagesV_flat] at hn ⊢
  rw [entsV, List.length_map] at hn
  obtain ⟨af, cf, rfl, _⟩ := id ha
  obtain ⟨at', ct, rfl, _⟩ := id hb
  have HLF := hid (leaf_facts h1.lies h3 h4)
  have HA := hid ha
  have HB := hid hb
  have H1 := hid h1
  have H2 := hid h2
  have H3 := hid h3
  have HN := hid hn
  have HFL := hid (lvs_flat H T)
  obtain ⟨z0, z1, z2, hbz, hzz⟩ := alloc3 w (.cells #[.slice af a.length cf, .slice at' b.length ct, .bool en] 32) (.cells #[.slice none 0 0] 27) (.cells #[.slice none 0 0] 27)
  obtain ⟨y0, y1, y2, y3, y4, hby, hyz⟩ := alloc5 w (.cells #[.slice af a.length cf, .slice at' b.length ct, .bool en] 32) (.cells #[.slice none 0 0] 27) (.cells #[.slice none 0 0] 27) (.cells #[.pointer (some ⟨tb, 0, none⟩)] 24) (.cells #[.slice af a.length cf] 30)
  have HLV := leaves_any tb (.slice af a.length cf) a _ (ha.new hbz)
  have zf : (((w.alloc (.cells #[.slice af a.length cf, .slice at' b.length ct, .bool en] 32)).alloc (.cells #[.slice none 0 0] 27)).alloc (.cells #[.slice none 0 0] 27)).cell? ⟨w.heap.size, 0, none⟩ = some (.slice af a.length cf) := by rw [cell_of_row _ _ _ _ _ _ z0]; rfl
  rw [hzz] at HLV
  clear ha hb h1 h2 h3 h4 h7 hn z0 z1 z2
  refine (callsIn_wide (n := 3)).1 ?_
  refine callsIn_of_wp_marks Try.func14 rfl trivial ?_ rfl
  simp only [Try.ntmps14, List.size_toArray, List.length_cons, List.length_nil, Nat.reduceAdd, Nat.reduceSub, Array.replicate_succ, Array.replicate_zero, List.push_toArray, List.append_toArray, List.nil_append, List.cons_append]
  gi_wp2_with (refine ⟨trivial, ?_⟩; gi_at_call 38; refine (callsIn_wide.2 HLV).mono ?_; clear HLV; rintro e w4 ⟨rfl, rfl⟩)
  generalize ((((w.alloc (.cells #[.slice af a.length cf, .slice at' b.length ct, .bool en] 32)).alloc (.cells #[.slice none 0 0] 27)).alloc (.cells #[.slice none 0 0] 27)).alloc (.cells #[.pointer (some ⟨tb, 0, none⟩)] 24)).alloc (.cells #[.slice af a.length cf] 30) = w5 at *
  simp only [Nat.add_assoc, Nat.reduceAdd]
  clear zf hbz hzz
  refine range_tellsE (by omega) (gf := 53) (lb := #[.pointer (some ⟨w.heap.size + 3, 0, none⟩), .pointer (some ⟨w.heap.size + 4, 0, none⟩)]) rfl (enters_of Try.func53 (by kernel_rfl) rfl)
    (leaves_tells _ (.slice af a.length cf) a H1.out H2.out H3.out HA.out (by omega) hby (w.heap.size + 3) (w.heap.size + 4) y3 y4) kpL_t (fun X l o o' hl hX ho => kpL_put X l o o' (by omega) hX ho) (fun _ => rfl)
    (fun E k X => ∃ sv xs, RgI w #[.slice af a.length cf, .slice at' b.length ct, .bool en] (fun x => inSp a b en x.1) ((E.take k).flatMap fun q => (q.es : List EntV)) X sv xs)
    (fun cd E k X => cd = .ret ∧ ∃ sv xs, RgX w (rangeL (entsV (flat (H + 1) T)) a b en) X sv xs)
    (fun E => rgI_own (by omega)) (fun cd E s A C row hs hg hr => ⟨hs.1, rgX_own (by omega) () A C row hs.2 hg hr⟩)
    (fun E hE => ⟨_, [], y0, y1, y2, rowed_nil _ _, rfl, hby, by omega⟩)
    (fun x a' X => a' = { tmps := #[.pointer (some ⟨tb, 0, none⟩), .agg #[.slice af a.length cf, .slice at' b.length ct, .bool en], undef, .pointer (some ⟨w.heap.size, 0, none⟩), .pointer (some ⟨w.heap.size + 1, 0, none⟩), .pointer (some ⟨w.heap.size + 2, 0, none⟩), .pointer (some ⟨x.pb, 0, none⟩), undef, undef, undef, undef, .pointer (some ⟨tb, 0, none⟩), .pointer (some ⟨w.heap.size, 0, none⟩), .slice af a.length cf, .func (.func 53) #[] #[.pointer (some ⟨w.heap.size + 3, 0, none⟩), .pointer (some ⟨w.heap.size + 4, 0, none⟩)], .pointer (some ⟨x.pb, 0, none⟩), undef, undef, undef, undef, undef, undef, undef, undef, undef, undef, undef, undef, undef, undef, undef, undef, undef, undef, undef, undef, undef, undef, undef, undef, undef, undef, undef, undef, undef, undef, undef, undef, undef, undef, undef, undef], defers := [] }) (fun x a' s A C row hs hg hr => hs) ?assign ?body ?done ?stop
  case stop =>
    rintro E D cd k X hD _ _ ⟨rfl, sv, xs, hx⟩ hK
    have HX := hid hx
    have HK := hid hK
    clear hx hK
    gi_wp2
    refine leaves_marks [D] _ ((waits_nil X).cons HK.out (fun E hE => (by cases hE))) fun w'' hs hz2 => ?_
    have hx2 := own_mark (J := fun _ X => ∃ sv xs, RgX w (rangeL (entsV (flat (H + 1) T)) a b en) X sv xs) (k := 0) (B := w5.heap.size) (rgX_own (by omega)) ⟨sv, xs, HX.out⟩ hD HK.out hs
    obtain ⟨sv2, xs2, hx2⟩ := hx2
    exact ⟨_, results_cell_slice rfl Try.underlying27 _ _ ⟨w.heap.size + 1, 0, none⟩ sv2 rfl (by rw [cell_of_row _ _ _ _ _ _ hx2.res]; rfl), sv2, xs2, rfl, hx2.rowd.lower (by omega), hx2.same, hx2.below⟩
  case done =>
    rintro E D X hD ⟨A, hAE, hne, hAk⟩ ⟨sv, xs, hI⟩ hK
    rw [List.take_length] at hI
    have hfin : (entsV (E.flatMap fun q => (q.es : List EntV))).filter (fun x => inSp a b en x.1) = rangeL (entsV (flat (H + 1) T)) a b en := by
      unfold rangeL
      rw [← HFL.out, hAE, List.flatMap_append, entsV, entsV, List.map_append, List.filter_append]
      have := range_skip (a := a) (b := b) (en := en) (xs := A.flatMap fun q => (q.es : List EntV)) (fun y hy => by obtain ⟨q, hq, hy⟩ := List.mem_flatMap.1 hy; exact hAk q hq y hy)
      rw [entsV] at this
      rw [this]
      rfl
    have hend := rg_end w5.heap.size hI hfin
    obtain ⟨a3, c3, rfl⟩ := row_slice hI.rowd.row
    have x0 : X.cell? ⟨w.heap.size + 2, 0, none⟩ = some (.slice a3 xs.length c3) := by rw [cell_of_row _ _ _ _ _ _ hI.box]; rfl
    have x1 : X.cell? ⟨w.heap.size + 1, 0, none⟩ = some (.slice none 0 0) := by rw [cell_of_row _ _ _ _ _ _ hI.res]; rfl
    have xf : X.frozen? ⟨w.heap.size + 1, 0, none⟩ = false := by simp [World.frozen?, hI.res]
    have HX := hid hend.2
    have HK := hid (hend.1.same _ _ hD hK rfl)
    clear hend hfin hI hK hAE hne hAk
    gi_wp2
    refine leaves_marks [D] _ ((waits_nil _).cons HK.out (fun E hE => (by cases hE))) fun w'' hs hz2 => ?_
    have hx2 := own_mark (J := fun _ X => ∃ sv xs, RgX w (rangeL (entsV (flat (H + 1) T)) a b en) X sv xs) (k := 0) (B := w5.heap.size) (rgX_own (by omega)) ⟨_, xs, HX.out⟩ hD HK.out hs
    obtain ⟨sv2, xs2, hx2⟩ := hx2
    exact ⟨_, results_cell_slice rfl Try.underlying27 _ _ ⟨w.heap.size + 1, 0, none⟩ sv2 rfl (by rw [cell_of_row _ _ _ _ _ _ hx2.res]; rfl), sv2, xs2, rfl, hx2.rowd.lower (by omega), hx2.same, hx2.below⟩
  case assign =>
    intro E l' m k x X K' hE hx hI hK
    have HK := hid hK
    have HI := hid hI
    clear hI hK hx hE
    dsimp only
    gi_wp2
    exact HK.out _ _ (KeepsFrom.refl _ _) (kpL_refl _ _) HI.out rfl
  case body =>
    rintro E l' m k x a' X hl' ⟨A, hAE, hne, hAk⟩ hx ⟨sv, xs, hI⟩ rfl
    have hxE := List.mem_of_getElem? hx
    have hxm : x ∈ lvs H T := by rw [hAE]; exact List.mem_append_right _ hxE
    obtain ⟨l1, l2, l3, l4⟩ := HLF.out x hxm
    have hlX := l1.new hI.below
    have HF := find_any x.pb x.sv x.fv (.slice af a.length cf) x.es a X (lies_pg.1 hlX).1.blk (leaf_ents hlX) (HA.out.new hI.below) ((risesV_iff _).2 l2) (by have := HN.out; omega)
    have hfr := atK_le ((x.es : List EntV).map EntV.ent) a
    rw [List.length_map] at hfr
    have hcut := atK_cut ((risesV_iff _).2 l2) a
    have HFR1 : Hid (∀ z ∈ (x.es : List EntV).take (atK ((x.es : List EntV).map EntV.ent) a), Op.bytesLess z.k a = true) := hid (fun z hz => by
      obtain ⟨j, hj⟩ := List.getElem?_of_mem hz
      have hjl : j < atK ((x.es : List EntV).map EntV.ent) a := by
        have := (List.getElem?_eq_some_iff.1 hj).1
        rw [List.length_take] at this
        omega
      rw [List.getElem?_take, if_pos hjl] at hj
      have := hcut j z.ent (by rw [List.getElem?_map, hj]; rfl)
      rw [show Op.bytesLess z.k a = _ from this]
      exact decide_eq_true hjl)
    have HFR2 : Hid (∀ (dd : Nat) (z : EntV), atK ((x.es : List EntV).map EntV.ent) a ≤ dd → (x.es : List EntV)[dd]? = some z → Op.bytesLess z.k a = false) := hid (fun dd z hd hz => by
      have := hcut dd z.ent (by rw [List.getElem?_map, hz]; rfl)
      rw [show Op.bytesLess z.k a = _ from this]
      exact decide_eq_false (by omega))
    generalize hitK ((x.es : List EntV).map EntV.ent) a = hit at *
    generalize atK ((x.es : List EntV).map EntV.ent) a = fr at *
    have htold : ((E.take (k + 1)).flatMap fun q => (q.es : List EntV)) = ((E.take k).flatMap fun q => (q.es : List EntV)) ++ x.es := by
      rw [List.take_add_one, hx, List.flatMap_append]
      simp
    have hdrop : E.drop k = x :: E.drop (k + 1) := by
      obtain ⟨hk1, hk2⟩ := List.getElem?_eq_some_iff.1 hx
      rw [← hk2]
      exact List.drop_eq_getElem_cons hk1
    have hflat : flat (H + 1) T = (A.flatMap fun q => (q.es : List EntV)) ++ ((E.take k).flatMap fun q => (q.es : List EntV)) ++ ((x.es : List EntV) ++ (E.drop (k + 1)).flatMap fun q => (q.es : List EntV)) := by
      rw [← HFL.out, hAE]
      conv => lhs; rw [← List.take_append_drop k E, hdrop]
      simp
    have HBRK : Hid (∀ (dd : Nat) (y : EntV), (x.es : List EntV)[dd]? = some y → Op.bytesLess y.k b = false → (entsV (((E.take k).flatMap fun q => (q.es : List EntV)) ++ (x.es : List EntV).take dd)).filter (fun x => inSp a b true x.1) = rangeL (entsV (flat (H + 1) T)) a b true) := hid (fun dd y hy hyb => by
      refine range_break (A := A.flatMap fun q => (q.es : List EntV)) (y := y) (tl := (x.es : List EntV).drop (dd + 1) ++ (E.drop (k + 1)).flatMap fun q => (q.es : List EntV)) H3.out ?_ (fun z hz => by obtain ⟨q, hq, hz⟩ := List.mem_flatMap.1 hz; exact hAk q hq z hz) hyb
      rw [hflat]
      have e : (x.es : List EntV) = (x.es : List EntV).take dd ++ y :: (x.es : List EntV).drop (dd + 1) := by
        obtain ⟨hk1, hk2⟩ := List.getElem?_eq_some_iff.1 hy
        rw [← hk2, ← List.drop_eq_getElem_cons hk1, List.take_append_drop]
      conv => lhs; rw [e]
      simp)
    have HFEW : Hid (((E.take k).flatMap fun q => (q.es : List EntV)).length + (x.es : List EntV).length ≤ (flat (H + 1) T).length) := hid (by
      rw [hflat]
      simp only [List.length_append]
      omega)
    have HTOLD := hid htold
    have HL1 := hid l1
    have HL3 := hid l3
    have HI := hid hI
    have hXz : w5.heap.size ≤ X.heap.size := by have := hI.big; omega
    obtain ⟨ax, cx, hsx⟩ := row_slice (lies_pg.1 l1).1.row
    have s0 : X.cell? ⟨w.heap.size, 0, none⟩ = some (.slice af a.length cf) := by rw [cell_of_row _ _ _ _ _ _ hI.sp]; rfl
    have p00 : X.cell? ⟨x.pb, 0, none⟩ = some (.slice ax x.es.length cx) := by rw [cell_of_row _ _ _ _ _ _ (lies_pg.1 hlX).1.blk, hsx]; rfl
    have hpl := block_lt (lies_pg.1 hlX).1.blk
    have hx4 : x.es.length < 100000 := by have := HN.out; omega
    have HSX := hid hsx
    have HYZ := hid hyz
    generalize hpb : x.pb = pb at *
    dsimp only
    clear hyz hx hxE hxm l1 l2 l3 l4 hlX hcut htold hdrop hflat hI hAE hne hAk hpb
    rcases (lies_pg.1 HL1.out).1.row.2 with ⟨e9, h0⟩ | ⟨g, cap, cur, e9, _, hg, q1, q2, q3, q4⟩
    · rw [hsx] at e9
      simp only [Value.slice.injEq] at e9
      obtain ⟨rfl, _, rfl⟩ := e9
      have hf0 : fr = 0 := by omega
      subst hf0
      have HLE : Hid ((x.es : List EntV).length ≤ 0) := hid (by omega)
      clear hsx
      gi_wp2_with ((first | refine ⟨trivial, fun h => (by cases h), ?_⟩ | refine ⟨trivial, ?_⟩); gi_at_call 26; refine (callsIn_round HF).mono ?_; clear HF; rintro e w1 ⟨rfl, hb1⟩
                   have HI1 := hid (HI.out.new hb1)
                   have HBX := hid hb1
                   have p0 := (hb1.cell (p := ⟨pb, 0, none⟩) hpl).trans p00
                   clear hb1)
      try simp only [Nat.sub_self]
      have HZ : Hid (RgI w #[.slice af a.length cf, .slice at' b.length ct, .bool en] (fun x => inSp a b en x.1) ((E.take (k + 1)).flatMap fun q => (q.es : List EntV)) w1 sv xs) := hid (by
        rw [HTOLD.out]
        have := HI1.out.skip HFR1.out
        rwa [List.take_of_length_le HLE.out] at this)
      have HZK : Hid (KpL w.heap.size X w1) := hid (kpL_new HI.out.below.size HBX.out)
      have HZF : Hid (KeepsFrom w5.heap.size X w1) := hid (keepsFrom_of (S := fun _ => False) (Spares.of_new HBX.out) (fun i h => h.elim))
      gi_loopg [30] 0 (fun kx s30 wr => s30 = .int .i64 0 ∧ wr = w1)
      case atStart => exact ⟨rfl, rfl⟩
      case round =>
        obtain ⟨rfl, rfl⟩ := hrel
        gi_wp2
        exact ⟨HZF.out, HZK.out, _, _, HZ.out⟩
    · rw [hsx] at e9
      simp only [Value.slice.injEq, true_and] at e9
      obtain ⟨rfl, rfl⟩ := e9
      clear hg cur q3 q4 hsx
      unfold maxLen at q2
      by_cases hcap : cx = fr
      · subst hcap
        have hfe : cx = x.es.length := by omega
        have HLE : Hid ((x.es : List EntV).length ≤ cx) := hid (by omega)
        subst hfe
        gi_wp2_with ((first | refine ⟨trivial, fun h => (by cases h), ?_⟩ | refine ⟨trivial, ?_⟩); gi_at_call 26; refine (callsIn_round HF).mono ?_; clear HF; rintro e w1 ⟨rfl, hb1⟩
                     have HI1 := hid (HI.out.new hb1)
                     have HBX := hid hb1
                     have p0 := (hb1.cell (p := ⟨pb, 0, none⟩) hpl).trans p00
                     clear hb1)
        try simp only [Nat.sub_self]
        have HZ : Hid (RgI w #[.slice af a.length cf, .slice at' b.length ct, .bool en] (fun x => inSp a b en x.1) ((E.take (k + 1)).flatMap fun q => (q.es : List EntV)) w1 sv xs) := hid (by
          rw [HTOLD.out]
          have := HI1.out.skip HFR1.out
          rwa [List.take_of_length_le HLE.out] at this)
        have HZK : Hid (KpL w.heap.size X w1) := hid (kpL_new HI.out.below.size HBX.out)
        have HZF : Hid (KeepsFrom w5.heap.size X w1) := hid (keepsFrom_of (S := fun _ => False) (Spares.of_new HBX.out) (fun i h => h.elim))
        gi_loopg [30] 0 (fun kx s30 wr => s30 = .int .i64 0 ∧ wr = w1)
        case atStart => exact ⟨rfl, rfl⟩
        case round =>
          obtain ⟨rfl, rfl⟩ := hrel
          gi_wp2
          exact ⟨HZF.out, HZK.out, _, _, HZ.out⟩
      · have hlt : fr < cx := by omega
        gi_wp2_with ((first | refine ⟨trivial, fun h => (by cases h), ?_⟩ | refine ⟨trivial, ?_⟩); gi_at_call 26; refine (callsIn_round HF).mono ?_; clear HF; rintro e w1 ⟨rfl, hb1⟩
                     have HI1 := hid (HI.out.new hb1)
                     have HBX := hid hb1
                     have p0 := (hb1.cell (p := ⟨pb, 0, none⟩) hpl).trans p00
                     clear hb1)
        gi_loopg [30] (x.es.length - fr) (fun kx s30 wr => ∃ (i : Nat) (sv : Value) (xs : List EntV), i + kx = x.es.length - fr ∧ s30 = .int .i64 (i : Int) ∧ Hid (RgI w #[.slice af a.length cf, .slice at' b.length ct, .bool en] (fun x => inSp a b en x.1) (((E.take k).flatMap fun q => (q.es : List EntV)) ++ (x.es : List EntV).take (fr + i)) wr sv xs) ∧ Hid (KpL w.heap.size X wr) ∧ Hid (KeepsFrom w5.heap.size X wr))
        case atStart => exact ⟨0, sv, xs, by omega, rfl, hid (HI1.out.skip HFR1.out), hid (kpL_new HI.out.below.size HBX.out), hid (keepsFrom_of (S := fun _ => False) (Spares.of_new HBX.out) (fun i h => h.elim))⟩
        case round =>
          obtain ⟨i, sv', xs', hii, rfl, HI', HK, HF'⟩ := hrel
          by_cases hk : gk = 0
          · subst hk
            have HLAST : Hid (((E.take (k + 1)).flatMap fun q => (q.es : List EntV)) = ((E.take k).flatMap fun q => (q.es : List EntV)) ++ (x.es : List EntV).take (fr + i)) := hid (by
              rw [HTOLD.out, List.take_of_length_le (show x.es.length ≤ fr + i by omega)])
            have hki : ¬ ((i : Int) < ((x.es.length - fr : Nat) : Int)) := by omega
            have hki2 : (((x.es.length - fr : Nat) : Int) ≤ (i : Int)) := by omega
            gi_wp2
            exact ⟨HF'.out, HK.out, _, _, by rw [HLAST.out]; exact HI'.out⟩
          · obtain ⟨m', rfl⟩ : ∃ m', gk = m' + 1 := ⟨gk - 1, by omega⟩
            have hki : ((i : Int) < ((x.es.length - fr : Nat) : Int)) := by omega
            have hk0 : (0 : Int) ≤ (i : Int) := by omega
            have hE := leaf_ents (HL1.out.new HI'.out.below)
            rw [HSX.out] at hE
            obtain ⟨b9, o9, ka, kc, va, vc, kb, vb, e9, hb9, hy, cy0, cy1, sy1, sy2⟩ := hE.at (fr + i) (by omega)
            cases e9
            have eo : 0 + (fr + i) * 2 = fr * 2 + i * 2 := by omega
            rw [eo] at cy0 cy1
            obtain ⟨a3, c3, rfl⟩ := row_slice HI'.out.rowd.row
            have hbN := new_alloc wr (.cells #[.slice ka kb.length kc, .slice va vb.length vc] 46)
            have hnN := World.alloc_heap_new wr (.cells #[.slice ka kb.length kc, .slice va vb.length vc] 46)
            have hI6 := HI'.out.new hbN
            have hS0 : (fun W' : World => W'.cell? ⟨w.heap.size + 2, 0, none⟩ = some (.slice a3 xs'.length c3) ∧ W'.cell? ⟨wr.heap.size, 0, none⟩ = some (.slice ka kb.length kc) ∧ W'.cell? ⟨wr.heap.size, 1, none⟩ = some (.slice va vb.length vc)) (wr.alloc (.cells #[.slice ka kb.length kc, .slice va vb.length vc] 46)) := ⟨by rw [cell_of_row _ _ _ _ _ _ hI6.box]; rfl, by rw [cell_of_row _ _ _ _ _ _ hnN]; rfl, by rw [cell_of_row _ _ _ _ _ _ hnN]; rfl⟩
            have t1 : (wr.alloc (.cells #[.slice ka kb.length kc, .slice va vb.length vc] 46)).cell? ⟨w.heap.size, 1, none⟩ = some (.slice at' b.length ct) := by rw [cell_of_row _ _ _ _ _ _ hI6.sp]; rfl
            have t2 : (wr.alloc (.cells #[.slice ka kb.length kc, .slice va vb.length vc] 46)).cell? ⟨w.heap.size, 2, none⟩ = some (.bool en) := by rw [cell_of_row _ _ _ _ _ _ hI6.sp]; rfl
            have t3 : (wr.alloc (.cells #[.slice ka kb.length kc, .slice va vb.length vc] 46)).cell? ⟨w.heap.size + 1, 0, none⟩ = some (.slice none 0 0) := by rw [cell_of_row _ _ _ _ _ _ hI6.res]; rfl
            have t4 : (wr.alloc (.cells #[.slice ka kb.length kc, .slice va vb.length vc] 46)).frozen? ⟨w.heap.size + 1, 0, none⟩ = false := by simp [World.frozen?, hI6.res]
            have hs1 := Says.new sy1 hbN
            have hs2 := Says.new sy2 hbN
            have hcmp := compare_any _ _ _ _ kb b _ hs1 (HB.out.new hI6.below)
            have hrng := cmp_range kb b
            have hless := cmp_less kb b
            have hka := HFR2.out (fr + i) _ (by omega) hy
            dsimp only at hka
            have hfx := HL3.out _ (List.mem_of_getElem? hy)
            have hxs : xs'.length < 100000 := by
              have h8 := HI'.out.few
              have h9 := HFEW.out
              have h10 := HN.out
              rw [List.length_append, List.length_take] at h8
              omega
            have HS1 := hid hs1
            have HS2 := hid hs2
            have HI6 := hid hI6
            have HKA := hid hka
            have HFY : Hid (kb.length ≤ 140737488351232 ∧ vb.length ≤ 140737488351232) := hid hfx
            have HY := hid hy
            have HK6 : Hid (KpL w.heap.size wr (wr.alloc (.cells #[.slice ka kb.length kc, .slice va vb.length vc] 46))) := hid (kpL_new HI'.out.below.size hbN)
            have HF6 : Hid (KeepsFrom w5.heap.size wr (wr.alloc (.cells #[.slice ka kb.length kc, .slice va vb.length vc] 46))) := hid (keepsFrom_of (S := fun _ => False) (Spares.of_new hbN) (fun i h => h.elim))
            generalize Lib.compareBytes kb b = r at *
            clear hE hy sy1 sy2 hI6 hs1 hs2 hka hfx hbN hnN eo
            cases en with
            | true =>
              by_cases hr0 : 0 ≤ r
              · have hyb : Op.bytesLess kb b = false := by
                  rw [decide_eq_true hr0] at hless
                  simpa using hless.symm
                have HEND := hid (rg_end w5.heap.size HI6.out (HBRK.out (fr + i) _ HY.out hyb))
                clear hless hyb
                gi_wp2_with ((first | refine ⟨trivial, fun h => (by cases h), ?_⟩ | refine ⟨trivial, ?_⟩); gi_at_call 39; refine (callsIn_round hcmp).mono ?_; clear hcmp; rintro e w7 ⟨rfl, rfl⟩)
                exact ⟨(HF'.out.trans HF6.out).trans HEND.out.1, rfl, _, _, HEND.out.2⟩
              · have hyb : Op.bytesLess kb b = true := by
                  rw [decide_eq_false hr0] at hless
                  simpa using hless.symm
                have HKEEP := hid (range_kept (a := a) (b := b) (en := true) (y := ⟨.slice ka kb.length kc, .slice va vb.length vc, kb, vb⟩) HKA.out (fun _ => hyb))
                have hr1 : r < 0 := by omega
                clear hless hyb
                generalize hW6 : wr.alloc (.cells #[.slice ka kb.length kc, .slice va vb.length vc] 46) = W6 at *
                gi_wp2_with ((first | refine ⟨trivial, fun h => (by cases h), ?_⟩ | refine ⟨trivial, ?_⟩); gi_at_call 39; refine (callsIn_round hcmp).mono ?_; clear hcmp; rintro e W6 ⟨rfl, rfl⟩)
                gi_wp2
                refine last_in_round (fun W' : World => W'.cell? ⟨w.heap.size + 2, 0, none⟩ = some (.slice a3 xs'.length c3) ∧ W'.cell? ⟨wr.heap.size, 0, none⟩ = some (.slice ka kb.length kc) ∧ W'.cell? ⟨wr.heap.size, 1, none⟩ = some (.slice va vb.length vc)) 5 (by kernel_rfl) (by kernel_rfl) (by rintro ⟨_, _, h⟩; exact h) ?_
                refine tkE (i := 0) rfl (by assumption) ?_
                refine tkE (i := 1) rfl (by assumption) ?_
                have HC := entry_any _ _ kb vb W6.drew (HS1.out.new (below_drewN _ _ 1)) (HS2.out.new (below_drewN _ _ 1)) HFY.out.1 HFY.out.2
                refine takeE_call (i := 2) #[.agg #[.slice ka kb.length kc, .slice va vb.length vc]] (fun u w' => ∃ kv' vv', u = .agg #[kv', vv'] ∧ Copy W6.heap.size w' kv' kb ∧ Copy W6.heap.size w' vv' vb ∧ (∀ g, kv'.ownBlock = some g → vv'.ownBlock ≠ some g) ∧ Below W6.heap.size W6 w') (by kernel_rfl) rfl rfl rfl (by kernel_rfl) (enters_of Try.func29 (by kernel_rfl) rfl) (HC.mono fun e w' ⟨kv', vv', h1, h2, h3, h4, h5⟩ => ⟨_, h1, kv', vv', rfl, h2, h3, h4, (below_drewN _ _ 1).trans h5⟩) ?_
                rintro _ W1 ⟨kv', vv', rfl, hk1, hv1, hap1, hb1⟩
                obtain ⟨a5, c5, rfl⟩ := hk1.form
                obtain ⟨a6, c6, rfl⟩ := hv1.form
                have hS1 : (fun W' : World => W'.cell? ⟨w.heap.size + 2, 0, none⟩ = some (.slice a3 xs'.length c3) ∧ W'.cell? ⟨wr.heap.size, 0, none⟩ = some (.slice ka kb.length kc) ∧ W'.cell? ⟨wr.heap.size, 1, none⟩ = some (.slice va vb.length vc)) W1 := ⟨(hb1.cell (p := ⟨w.heap.size + 2, 0, none⟩) (World.block_lt_of_cell? W6 _ hS0.1)).trans hS0.1, (hb1.cell (p := ⟨wr.heap.size, 0, none⟩) (World.block_lt_of_cell? W6 _ hS0.2.1)).trans hS0.2.1, (hb1.cell (p := ⟨wr.heap.size, 1, none⟩) (World.block_lt_of_cell? W6 _ hS0.2.2)).trans hS0.2.2⟩
                refine ⟨hS1, ?_⟩
                simp only [Act.put, List.getElem_toArray, List.getElem_cons_zero, List.getElem_cons_succ, List.setIfInBounds_toArray, List.set_cons_zero, List.set_cons_succ]
                obtain ⟨i0, hi, hz0, hz1, hz2⟩ := info_parts Try.infoEntryZ
                have hbA : Below W1.heap.size W1 (W1.alloc (.cells #[.slice a5 kb.length c5, .slice a6 vb.length c6] 46)) := (Below.refl _ _).alloc (Nat.le_refl _) _
                have hnA := World.alloc_heap_new W1 (.cells #[.slice a5 kb.length c5, .slice a6 vb.length c6] 46)
                have hS2 : (fun W' : World => W'.cell? ⟨w.heap.size + 2, 0, none⟩ = some (.slice a3 xs'.length c3) ∧ W'.cell? ⟨wr.heap.size, 0, none⟩ = some (.slice ka kb.length kc) ∧ W'.cell? ⟨wr.heap.size, 1, none⟩ = some (.slice va vb.length vc)) (W1.alloc (.cells #[.slice a5 kb.length c5, .slice a6 vb.length c6] 46)) := ⟨(hbA.cell (p := ⟨w.heap.size + 2, 0, none⟩) (World.block_lt_of_cell? W1 _ hS1.1)).trans hS1.1, (hbA.cell (p := ⟨wr.heap.size, 0, none⟩) (World.block_lt_of_cell? W1 _ hS1.2.1)).trans hS1.2.1, (hbA.cell (p := ⟨wr.heap.size, 1, none⟩) (World.block_lt_of_cell? W1 _ hS1.2.2)).trans hS1.2.2⟩
                refine takeE_slice (i := 3) #[.slice a5 kb.length c5, .slice a6 vb.length c6] i0 _ (by kernel_rfl) rfl rfl rfl (by kernel_rfl) Try.underlying27 hi hz0 (by rw [hz1]; rfl) (by simp) (by simp) hS2 ?_
                simp only [Act.put, List.getElem_toArray, List.getElem_cons_zero, List.getElem_cons_succ, List.setIfInBounds_toArray, List.set_cons_zero, List.set_cons_succ]
                have hb2 : Below W6.heap.size W6 (W1.alloc (.cells #[.slice a5 kb.length c5, .slice a6 vb.length c6] 46)) := hb1.trans (hbA.mono hb1.size)
                have hk2 := Copy.new hk1 hbA
                have hv2 := Copy.new hv1 hbA
                generalize W1.alloc (.cells #[.slice a5 kb.length c5, .slice a6 vb.length c6] 46) = W2 at *
                have hown2 := (Spares.of_new (S := fun _ => False) hb2).row HI6.out.rowd.row (fun _ _ => id)
                have hb2z := hb2.size
                have hb6 := HI6.out.big
                refine takeE_append (i := 4) (s := .tmp 45) (x := .tmp 48) (t := 27) (by kernel_rfl) rfl rfl rfl (w.heap.size + 5) 46 i0 _ 2 48 Try.underlying27 hi hz0 hz1 hz2 rfl (by decide) (.slice a3 xs'.length c3) xs'.length (xs'.flatMap EntV.two) (by kernel_rfl) hown2 ⟨W1.heap.size, 0, none⟩ 1 1 [.slice a5 kb.length c5, .slice a6 vb.length c6] (by kernel_rfl) rfl (by have := World.news_of_block hnA; simpa using this) (by intro u hu; simp at hu; rcases hu with rfl | rfl <;> rfl) (by decide) (by unfold maxLen; omega) (by omega) (by omega) ?_
                intro g5 cap5 W3 hown3 hgrow hat hglt
                have hlow : ∀ i, (Value.slice a3 xs'.length c3).ownBlock = some i → w.heap.size + 5 ≤ i ∧ i < wr.heap.size := fun i hi => HI'.out.rowd.row.lt i hi
                have hS3 : (fun W' : World => W'.cell? ⟨w.heap.size + 2, 0, none⟩ = some (.slice a3 xs'.length c3) ∧ W'.cell? ⟨wr.heap.size, 0, none⟩ = some (.slice ka kb.length kc) ∧ W'.cell? ⟨wr.heap.size, 1, none⟩ = some (.slice va vb.length vc)) W3 := ⟨(hgrow.cell_far ⟨w.heap.size + 2, 0, none⟩ (World.block_lt_of_cell? W2 _ hS2.1) (fun e => by have h1 : w.heap.size + 5 ≤ w.heap.size + 2 := (hlow _ e.symm).1; omega)).trans hS2.1,
                  (hgrow.cell_far ⟨wr.heap.size, 0, none⟩ (World.block_lt_of_cell? W2 _ hS2.2.1) (fun e => by have h1 : wr.heap.size < wr.heap.size := (hlow _ e.symm).2; omega)).trans hS2.2.1, (hgrow.cell_far ⟨wr.heap.size, 1, none⟩ (World.block_lt_of_cell? W2 _ hS2.2.2) (fun e => by have h1 : wr.heap.size < wr.heap.size := (hlow _ e.symm).2; omega)).trans hS2.2.2⟩
                have hfr3 : W3.frozen? ⟨w.heap.size + 2, 0, none⟩ = false := by
                  rw [hgrow.frozen_far ⟨w.heap.size + 2, 0, none⟩ (World.block_lt_of_cell? W2 _ hS2.1) (fun e => by have h1 : w.heap.size + 5 ≤ w.heap.size + 2 := (hlow _ e.symm).1; omega)]
                  have hgot2 := (hb2.block _ (block_lt HI6.out.box)).trans HI6.out.box
                  simp [World.frozen?, hgot2]
                have HST := hid (rg_step w5.heap.size HI6.out ⟨.slice ka kb.length kc, .slice va vb.length vc, kb, vb⟩ HKEEP.out hb2 hk2 hv2 hap1 hgrow hown3)
                refine ⟨hS3, ?_⟩
                simp only [Act.put, List.getElem_toArray, List.getElem_cons_zero, List.getElem_cons_succ, List.setIfInBounds_toArray, List.set_cons_zero, List.set_cons_succ]
                clear hown3 hgrow hat hlow hown2 hnA hS2 hS1 hb2 hb1 hbA HC hk1 hv1 hk2 hv2
                refine takeE_store (i := 5) (pi := ⟨w.heap.size + 2, 0, none⟩) (v := .slice (some ⟨g5, 0, none⟩) (xs'.length + 1) cap5) Try.infoEntries (by kernel_rfl) rfl rfl rfl rfl (by kernel_rfl) (by kernel_rfl) rfl rfl hS3.1 hfr3 (.inr rfl) ?_
                refine wpAnyE_done (by kernel_rfl) ?_ _
                clear hS3 hfr3
                gi_wp2
                gi_roundg m'
                case measure => omega
                case rel =>
                  refine ⟨i + 1, .slice (some ⟨g5, 0, none⟩) (xs'.length + 1) cap5, xs' ++ [⟨.slice a5 kb.length c5, .slice a6 vb.length c6, kb, vb⟩], by omega, by first | rfl | go_num, hid ?_, hid (kpL_t (kpL_t HK.out HK6.out) HST.out.2.1), hid ((HF'.out.trans HF6.out).trans HST.out.1)⟩
                  have e : ((E.take k).flatMap fun q => (q.es : List EntV)) ++ (x.es : List EntV).take (fr + (i + 1)) = ((E.take k).flatMap fun q => (q.es : List EntV)) ++ (x.es : List EntV).take (fr + i) ++ [⟨.slice ka kb.length kc, .slice va vb.length vc, kb, vb⟩] := by
                    rw [← Nat.add_assoc, List.take_add_one, HY.out]
                    simp
                  rw [e]
                  exact HST.out.2.2
            | false =>
              have HKEEP := hid (range_kept (a := a) (b := b) (en := false) (y := ⟨.slice ka kb.length kc, .slice va vb.length vc, kb, vb⟩) HKA.out (fun h => (by cases h)))
              clear hcmp hless
              generalize hW6 : wr.alloc (.cells #[.slice ka kb.length kc, .slice va vb.length vc] 46) = W6 at *
              gi_wp2
              refine ⟨trivial, ?_⟩
              gi_wp2
              refine last_in_round (fun W' : World => W'.cell? ⟨w.heap.size + 2, 0, none⟩ = some (.slice a3 xs'.length c3) ∧ W'.cell? ⟨wr.heap.size, 0, none⟩ = some (.slice ka kb.length kc) ∧ W'.cell? ⟨wr.heap.size, 1, none⟩ = some (.slice va vb.length vc)) 5 (by kernel_rfl) (by kernel_rfl) (by rintro ⟨_, _, h⟩; exact h) ?_
              refine tkE (i := 0) rfl (by assumption) ?_
              refine tkE (i := 1) rfl (by assumption) ?_
              have HC := entry_any _ _ kb vb W6.drew (HS1.out.new (below_drewN _ _ 1)) (HS2.out.new (below_drewN _ _ 1)) HFY.out.1 HFY.out.2
              refine takeE_call (i := 2) #[.agg #[.slice ka kb.length kc, .slice va vb.length vc]] (fun u w' => ∃ kv' vv', u = .agg #[kv', vv'] ∧ Copy W6.heap.size w' kv' kb ∧ Copy W6.heap.size w' vv' vb ∧ (∀ g, kv'.ownBlock = some g → vv'.ownBlock ≠ some g) ∧ Below W6.heap.size W6 w') (by kernel_rfl) rfl rfl rfl (by kernel_rfl) (enters_of Try.func29 (by kernel_rfl) rfl) (HC.mono fun e w' ⟨kv', vv', h1, h2, h3, h4, h5⟩ => ⟨_, h1, kv', vv', rfl, h2, h3, h4, (below_drewN _ _ 1).trans h5⟩) ?_
              rintro _ W1 ⟨kv', vv', rfl, hk1, hv1, hap1, hb1⟩
              obtain ⟨a5, c5, rfl⟩ := hk1.form
              obtain ⟨a6, c6, rfl⟩ := hv1.form
              have hS1 : (fun W' : World => W'.cell? ⟨w.heap.size + 2, 0, none⟩ = some (.slice a3 xs'.length c3) ∧ W'.cell? ⟨wr.heap.size, 0, none⟩ = some (.slice ka kb.length kc) ∧ W'.cell? ⟨wr.heap.size, 1, none⟩ = some (.slice va vb.length vc)) W1 := ⟨(hb1.cell (p := ⟨w.heap.size + 2, 0, none⟩) (World.block_lt_of_cell? W6 _ hS0.1)).trans hS0.1, (hb1.cell (p := ⟨wr.heap.size, 0, none⟩) (World.block_lt_of_cell? W6 _ hS0.2.1)).trans hS0.2.1, (hb1.cell (p := ⟨wr.heap.size, 1, none⟩) (World.block_lt_of_cell? W6 _ hS0.2.2)).trans hS0.2.2⟩
              refine ⟨hS1, ?_⟩
              simp only [Act.put, List.getElem_toArray, List.getElem_cons_zero, List.getElem_cons_succ, List.setIfInBounds_toArray, List.set_cons_zero, List.set_cons_succ]
              obtain ⟨i0, hi, hz0, hz1, hz2⟩ := info_parts Try.infoEntryZ
              have hbA : Below W1.heap.size W1 (W1.alloc (.cells #[.slice a5 kb.length c5, .slice a6 vb.length c6] 46)) := (Below.refl _ _).alloc (Nat.le_refl _) _
              have hnA := World.alloc_heap_new W1 (.cells #[.slice a5 kb.length c5, .slice a6 vb.length c6] 46)
              have hS2 : (fun W' : World => W'.cell? ⟨w.heap.size + 2, 0, none⟩ = some (.slice a3 xs'.length c3) ∧ W'.cell? ⟨wr.heap.size, 0, none⟩ = some (.slice ka kb.length kc) ∧ W'.cell? ⟨wr.heap.size, 1, none⟩ = some (.slice va vb.length vc)) (W1.alloc (.cells #[.slice a5 kb.length c5, .slice a6 vb.length c6] 46)) := ⟨(hbA.cell (p := ⟨w.heap.size + 2, 0, none⟩) (World.block_lt_of_cell? W1 _ hS1.1)).trans hS1.1, (hbA.cell (p := ⟨wr.heap.size, 0, none⟩) (World.block_lt_of_cell? W1 _ hS1.2.1)).trans hS1.2.1, (hbA.cell (p := ⟨wr.heap.size, 1, none⟩) (World.block_lt_of_cell? W1 _ hS1.2.2)).trans hS1.2.2⟩
              refine takeE_slice (i := 3) #[.slice a5 kb.length c5, .slice a6 vb.length c6] i0 _ (by kernel_rfl) rfl rfl rfl (by kernel_rfl) Try.underlying27 hi hz0 (by rw [hz1]; rfl) (by simp) (by simp) hS2 ?_
              simp only [Act.put, List.getElem_toArray, List.getElem_cons_zero, List.getElem_cons_succ, List.setIfInBounds_toArray, List.set_cons_zero, List.set_cons_succ]
              have hb2 : Below W6.heap.size W6 (W1.alloc (.cells #[.slice a5 kb.length c5, .slice a6 vb.length c6] 46)) := hb1.trans (hbA.mono hb1.size)
              have hk2 := Copy.new hk1 hbA
              have hv2 := Copy.new hv1 hbA
              generalize W1.alloc (.cells #[.slice a5 kb.length c5, .slice a6 vb.length c6] 46) = W2 at *
              have hown2 := (Spares.of_new (S := fun _ => False) hb2).row HI6.out.rowd.row (fun _ _ => id)
              have hb2z := hb2.size
              have hb6 := HI6.out.big
              refine takeE_append (i := 4) (s := .tmp 45) (x := .tmp 48) (t := 27) (by kernel_rfl) rfl rfl rfl (w.heap.size + 5) 46 i0 _ 2 48 Try.underlying27 hi hz0 hz1 hz2 rfl (by decide) (.slice a3 xs'.length c3) xs'.length (xs'.flatMap EntV.two) (by kernel_rfl) hown2 ⟨W1.heap.size, 0, none⟩ 1 1 [.slice a5 kb.length c5, .slice a6 vb.length c6] (by kernel_rfl) rfl (by have := World.news_of_block hnA; simpa using this) (by intro u hu; simp at hu; rcases hu with rfl | rfl <;> rfl) (by decide) (by unfold maxLen; omega) (by omega) (by omega) ?_
              intro g5 cap5 W3 hown3 hgrow hat hglt
              have hlow : ∀ i, (Value.slice a3 xs'.length c3).ownBlock = some i → w.heap.size + 5 ≤ i ∧ i < wr.heap.size := fun i hi => HI'.out.rowd.row.lt i hi
              have hS3 : (fun W' : World => W'.cell? ⟨w.heap.size + 2, 0, none⟩ = some (.slice a3 xs'.length c3) ∧ W'.cell? ⟨wr.heap.size, 0, none⟩ = some (.slice ka kb.length kc) ∧ W'.cell? ⟨wr.heap.size, 1, none⟩ = some (.slice va vb.length vc)) W3 := ⟨(hgrow.cell_far ⟨w.heap.size + 2, 0, none⟩ (World.block_lt_of_cell? W2 _ hS2.1) (fun e => by have h1 : w.heap.size + 5 ≤ w.heap.size + 2 := (hlow _ e.symm).1; omega)).trans hS2.1,
                (hgrow.cell_far ⟨wr.heap.size, 0, none⟩ (World.block_lt_of_cell? W2 _ hS2.2.1) (fun e => by have h1 : wr.heap.size < wr.heap.size := (hlow _ e.symm).2; omega)).trans hS2.2.1, (hgrow.cell_far ⟨wr.heap.size, 1, none⟩ (World.block_lt_of_cell? W2 _ hS2.2.2) (fun e => by have h1 : wr.heap.size < wr.heap.size := (hlow _ e.symm).2; omega)).trans hS2.2.2⟩
              have hfr3 : W3.frozen? ⟨w.heap.size + 2, 0, none⟩ = false := by
                rw [hgrow.frozen_far ⟨w.heap.size + 2, 0, none⟩ (World.block_lt_of_cell? W2 _ hS2.1) (fun e => by have h1 : w.heap.size + 5 ≤ w.heap.size + 2 := (hlow _ e.symm).1; omega)]
                have hgot2 := (hb2.block _ (block_lt HI6.out.box)).trans HI6.out.box
                simp [World.frozen?, hgot2]
              have HST := hid (rg_step w5.heap.size HI6.out ⟨.slice ka kb.length kc, .slice va vb.length vc, kb, vb⟩ HKEEP.out hb2 hk2 hv2 hap1 hgrow hown3)
              refine ⟨hS3, ?_⟩
              simp only [Act.put, List.getElem_toArray, List.getElem_cons_zero, List.getElem_cons_succ, List.setIfInBounds_toArray, List.set_cons_zero, List.set_cons_succ]
              clear hown3 hgrow hat hlow hown2 hnA hS2 hS1 hb2 hb1 hbA HC hk1 hv1 hk2 hv2
              refine takeE_store (i := 5) (pi := ⟨w.heap.size + 2, 0, none⟩) (v := .slice (some ⟨g5, 0, none⟩) (xs'.length + 1) cap5) Try.infoEntries (by kernel_rfl) rfl rfl rfl rfl (by kernel_rfl) (by kernel_rfl) rfl rfl hS3.1 hfr3 (.inr rfl) ?_
              refine wpAnyE_done (by kernel_rfl) ?_ _
              clear hS3 hfr3
              gi_wp2
              gi_roundg m'
              case measure => omega
              case rel =>
                refine ⟨i + 1, .slice (some ⟨g5, 0, none⟩) (xs'.length + 1) cap5, xs' ++ [⟨.slice a5 kb.length c5, .slice a6 vb.length c6, kb, vb⟩], by omega, by first | rfl | go_num, hid ?_, hid (kpL_t (kpL_t HK.out HK6.out) HST.out.2.1), hid ((HF'.out.trans HF6.out).trans HST.out.1)⟩
                have e : ((E.take k).flatMap fun q => (q.es : List EntV)) ++ (x.es : List EntV).take (fr + (i + 1)) = ((E.take k).flatMap fun q => (q.es : List EntV)) ++ (x.es : List EntV).take (fr + i) ++ [⟨.slice ka kb.length kc, .slice va vb.length vc, kb, vb⟩] := by
                  rw [← Nat.add_assoc, List.take_add_one, HY.out]
                  simp
                rw [e]
                exact HST.out.2.2
end Go.Proofs.Ytjfipejfejmlaaa
