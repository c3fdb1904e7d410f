/- An act on both trees. -/
import Derived.Test.YthkeofinamedfaaDoorPlayD
import Derived.Test.YthkeofinamedfaaDoorForksP
namespace Go.Proofs.YthkeofinamedfaaDoor
open Go.RowKit Go.Shelf
set_option linter.unusedVariables false
set_option linter.unusedSimpArgs false
set_option maxRecDepth 20000

section
variable {B N M : Nat} {w : World} {tb xb : Nat} {d : Int} {ka va k' v' : Value} {kb vb : List UInt8} {T T' : Option Tri} {xs ys : List EntV} {W W' : World}

theorem in_put (h : In B N M w tb xb d ka va k' v' kb vb T xs W) (hs : Tri.short (kb, vb)) (hfew : (Tri.entsO T).length < 1000000) :
    Calls Tryd.prog 23 #[.pointer (some ⟨tb, 0, none⟩), k', v'] W fun e W' => e = .returned (.int .i64 0) ∧ In B N M w tb xb d ka va k' v' kb vb (some (Tri.put T (kb, vb))) xs W' :=
  (pair_put k' v' kb vb h.pair h.up h.says.1 h.says.2.1 hs hfew).mono fun e W' ⟨h1, h2, h3⟩ => ⟨h1, h.on h3 h2⟩

theorem in_xput (h : In B N M w tb xb d ka va k' v' kb vb T xs W) (hs : Tri.short (kb, vb)) (hfew : xs.length < 1000000) :
    Calls Tryd.prog 30 #[.pointer (some ⟨xb, 0, none⟩), ka, va] W fun e W' => e = .returned (.int .i64 0) ∧ ∃ ys, In B N M w tb xb d ka va k' v' kb vb T ys W' ∧ ys.map EntV.ent = putL (xs.map EntV.ent) (kb, vb) :=
  (pair_xput ka va kb vb h.pair h.up h.says.2.2.1 h.says.2.2.2 hs hfew).mono fun e W' ⟨h1, ys, h2, h4, h3⟩ => ⟨h1, ys, h.on h3 h2, h4⟩

theorem in_delete (h : In B N M w tb xb d ka va k' v' kb vb T xs W) (hfew : (Tri.entsO T).length < 1000000) :
    Calls Tryd.prog 25 #[.pointer (some ⟨tb, 0, none⟩), k'] W fun e W' => e = .returned (.bool (look T kb).isSome) ∧ In B N M w tb xb d ka va k' v' kb vb (dropT T kb) xs W' :=
  (pair_delete k' kb h.pair h.says.1 hfew).mono fun e W' ⟨h1, h2, h3⟩ => ⟨h1, h.on h3 h2⟩

theorem in_xdelete (h : In B N M w tb xb d ka va k' v' kb vb T' xs W) (hT : Tri.WFO T) (hx : xs.map EntV.ent = Tri.entsO T) (hfew : xs.length < 1000000) :
    Calls Tryd.prog 31 #[.pointer (some ⟨xb, 0, none⟩), ka] W fun e W' => e = .returned (.bool (look T kb).isSome) ∧ ∃ ys, In B N M w tb xb d ka va k' v' kb vb T' ys W' ∧ ys.map EntV.ent = Tri.entsO (dropT T kb) :=
  (pair_xdelete ka kb h.pair h.up hT hx h.says.2.2.1 hfew).mono fun e W' ⟨h1, ys, h2, h4, h3⟩ => ⟨h1, ys, h.on h3 h2, h4⟩

theorem Lends.mono4 {B B' : Nat} {w : World} {v : Value} {bs : List UInt8} (h : Lends B w v bs) (hB : B' ≤ B) : Lends B' w v bs := by
  obtain ⟨g, rfl, ho⟩ := h
  exact ⟨g, rfl, owns_lower ho (fun g' hg => Nat.le_trans hB (ho.lt g' hg).1)⟩

theorem in_long (h : In B N M w tb xb d ka va k' v' kb vb T xs W) (hs : ¬ Tri.short (kb, vb)) :
    Calls Tryd.prog 23 #[.pointer (some ⟨tb, 0, none⟩), k', v'] W fun e W' => e = .returned (.int .i64 2) ∧ In B N M w tb xb d ka va k' v' kb vb T xs W' :=
  (long_B tb k' v' kb vb W h.says.1 h.says.2.1 hs).mono fun e W' ⟨h1, h2⟩ => ⟨h1, h2 ▸ h⟩

theorem in_xlong (h : In B N M w tb xb d ka va k' v' kb vb T xs W) (hs : ¬ Tri.short (kb, vb)) :
    Calls Tryd.prog 30 #[.pointer (some ⟨xb, 0, none⟩), ka, va] W fun e W' => e = .returned (.int .i64 2) ∧ In B N M w tb xb d ka va k' v' kb vb T xs W' :=
  (xlong_any xb ka va kb vb W h.says.2.2.1 h.says.2.2.2 hs).mono fun e W' ⟨h1, h2⟩ => ⟨h1, h2 ▸ h⟩

theorem in_get (h : In B N M w tb xb d ka va k' v' kb vb T xs W) :
    Calls Tryd.prog 24 #[.pointer (some ⟨tb, 0, none⟩), k'] W fun e W' => ∃ a c, e = .returned (.tuple #[.slice a ((look T kb).getD []).length c, .bool (look T kb).isSome]) ∧ Copy W.heap.size W' (.slice a ((look T kb).getD []).length c) ((look T kb).getD []) ∧ Below W.heap.size W W' :=
  (get_B 0 tb T k' kb W h.pair.tree h.says.1).mono fun e W' ⟨v', h1, h2, h3⟩ => by
    obtain ⟨a, c, rfl⟩ := h2.form
    exact ⟨a, c, h1, h2, h3⟩

theorem in_xget (h : In B N M w tb xb d ka va k' v' kb vb T' xs W) (hT : Tri.WFO T) (hx : xs.map EntV.ent = Tri.entsO T) (hfew : xs.length < 1000000) :
    Calls Tryd.prog 32 #[.pointer (some ⟨xb, 0, none⟩), ka] W fun e W' => ∃ a c, e = .returned (.tuple #[.slice a ((look T kb).getD []).length c, .bool (look T kb).isSome]) ∧ Copy W.heap.size W' (.slice a ((look T kb).getD []).length c) ((look T kb).getD []) ∧ Below W.heap.size W W' := by
  obtain ⟨St, Sx, q1, q2, _⟩ := h.pair
  exact (xget_any Sx xb xs T ka kb W q2 hT hx h.says.2.2.1 hfew).mono fun e W' ⟨v', h1, h2, h3⟩ => by
    obtain ⟨a, c, rfl⟩ := h2.form
    exact ⟨a, c, h1, h2, h3⟩

theorem in_xpath (h : In B N M w tb xb d ka va k' v' kb vb T' xs W) (hT : Tri.WFO T) (hx : xs.map EntV.ent = Tri.entsO T) (hfew : xs.length < 1000000) :
    Calls Tryd.prog 35 #[.pointer (some ⟨xb, 0, none⟩), ka] W fun e w' => ∃ ek ev sv, e = .returned (.agg #[.bool T.isNone, ek, ev, sv]) ∧ Copy W.heap.size w' ek (((T.map (·.near kb)).map (·.1)).getD []) ∧ Copy W.heap.size w' ev (((T.map (·.near kb)).map (·.2)).getD []) ∧
      w'.ownsRow W.heap.size 62 34 sv (stepsO T kb).length ((stepsO T kb).flatMap stepC) ∧ Below W.heap.size W w' := by
  obtain ⟨St, Sx, q1, q2, _⟩ := h.pair
  have := h.kl
  exact xpath_any Sx xb xs T ka kb W q2 hT hx h.says.2.2.1 (by omega) hfew

theorem len_ent {L : List Ent} (h : ys.map EntV.ent = L) : ys.length = L.length := by rw [← h, List.length_map]

/-- After the lending. -/
theorem in_make {W2 W3 : World} (hp : Pair (fun i => B ≤ i) w tb xb T xs) (hB : B ≤ w.heap.size) (hka : Shows B w ka kb) (hva : Shows B w va vb) (hkl : kb.length ≤ 4096) (hvl : vb.length ≤ 16384) (ht : Tables w) (htB : 2 + 1 ≤ B)
    (hk : Lends (w.heap.size + 1) W2 k' kb) (hb2 : Below (w.heap.size + 1) (w.alloc (.cells #[.int .i64 d, ka, va] 30)) W2) (hv : Lends W2.heap.size W3 v' vb) (hb3 : Below W2.heap.size W2 W3) :
    In B w.heap.size W3.heap.size w tb xb d ka va k' v' kb vb T xs W3 := by
  have hb1 : Below w.heap.size w (w.alloc (.cells #[.int .i64 d, ka, va] 30)) := Below.alloc (Below.refl _ _) (Nat.le_refl _) _
  have hz : (w.alloc (.cells #[.int .i64 d, ka, va] 30)).heap.size = w.heap.size + 1 := size_alloc1 _ _
  have z2 := hb2.size
  have z3 := hb3.size
  have hb : Below w.heap.size w W3 := (hb1.trans (hb2.mono (by omega))).trans (hb3.mono (by omega))
  have hk3 := hk.below hb3
  refine ⟨?_, ?_, hk3, hv.mono4 (by omega), fun g hg => (hk3.ltR4 g hg).2, fun g hg => (hv.ltR4 g hg).2, fun g hg e => ?_, hka.below (hb.mono hB), hva.below (hb.mono hB), hkl, hvl, hb.mono hB, hB, by omega, Nat.le_refl _, ht.below (hb.mono hB) htB, htB⟩
  · exact (hp.lt.mono (fun i hi => (⟨hi.1, .inl hi.2⟩ : area B w.heap.size W3.heap.size i))).new hb
  · exact (hb3.block _ (by omega)).trans ((hb2.block _ (by omega)).trans (heap_alloc_new w _))
  · have h1 := (hk.ltR4 g hg).2
    have h2 := (hv.ltR4 g e).1
    omega

theorem In.cells (h : In B N M w tb xb d ka va k' v' kb vb T xs W) : W.cell? ⟨N, 0, none⟩ = some (.int .i64 d) ∧ W.cell? ⟨N, 1, none⟩ = some ka ∧ W.cell? ⟨N, 2, none⟩ = some va := by
  have hb := h.box
  exact ⟨by simp [World.cell?, hb], by simp [World.cell?, hb], by simp [World.cell?, hb]⟩

theorem in_end (h : In B N M w tb xb d ka va k' v' kb vb T xs W) :
    Calls Tryd.prog 33 #[.slice (some ⟨W.heap.size, 0, none⟩) 2 2] (W.alloc (.cells #[k', v'] 28)) fun e W' => e = .returned (.bool true) ∧ Pair (fun i => B ≤ i) W' tb xb T xs ∧ Below B w W' := by
  have hN := h.NM
  have hM := h.MW
  have hbn := h.BN
  refine (own_two (N + 1) W k' v' (by omega) h.k.full4 h.v.full4 h.ne).mono ?_
  rintro e W' ⟨rfl, hs⟩
  refine ⟨rfl, (h.pair.keep hs (fun i hi => ?_)).mono (fun i hi => hi.1), h.below.trans (hs.below (fun i hi => ?_) (by omega))⟩
  · rintro (e | e)
    · have h1 := (h.k.ltR4 i e).1; have h2 := h.kM i e; have := hi.2; omega
    · have h1 := (h.v.ltR4 i e).1; have h2 := h.vM i e; have := hi.2; omega
  · rcases hi with e | e
    · have h1 := (h.k.ltR4 i e).1; omega
    · have h1 := (h.v.ltR4 i e).1; omega
end

theorem steps_sums (T : Option Tri) (key : List UInt8) (hT : Tri.WFO T) : ∀ s ∈ stepsO T key, s.2.2.length = 32 := by
  cases T with
  | none => intro s hs; cases hs
  | some t => exact fun s hs => (Tri.steps_bits t key hT s hs).2.2.2

theorem proof_cells {W : World} {g : Nat} {a b c d : Value} {t : TypeId} (h : W.heap[g]? = some (.cells #[a, b, c, d] t (0, 0))) : W.cell? ⟨g, 0, none⟩ = some a ∧ W.cell? ⟨g, 1, none⟩ = some b ∧ W.cell? ⟨g, 2, none⟩ = some c ∧ W.cell? ⟨g, 3, none⟩ = some d :=
  ⟨by simp [World.cell?, h], by simp [World.cell?, h], by simp [World.cell?, h], by simp [World.cell?, h]⟩

theorem rowed_one {B : Nat} {W : World} {ek ev : Value} {k v : List UInt8} (hB : B ≤ W.heap.size) (h1 : Copy B W ek k) (h2 : Copy B W ev v) (ha : ∀ g, ek.ownBlock = some g → ev.ownBlock ≠ some g) :
    Rowed B (W.alloc (.cells #[ek, ev] 52)) (.slice (some ⟨W.heap.size, 0, none⟩) 1 1) [⟨ek, ev, k, v⟩] := by
  have hb : Below W.heap.size W (W.alloc (.cells #[ek, ev] 52)) := Below.alloc (Below.refl _ _) (Nat.le_refl _) _
  refine ⟨⟨rfl, .inr ⟨W.heap.size, 1, #[ek, ev], rfl, hB, heap_alloc_new W _, Nat.le_refl _, by unfold maxLen; omega, rfl, rfl⟩⟩, fun x hx => ?_, ?_⟩
  · simp only [List.mem_cons, List.not_mem_nil, or_false] at hx
    subst hx
    exact ⟨h1.new hb, h2.new hb⟩
  · simp only [Sep, List.flatMap_cons, List.flatMap_nil, EntV.two, List.append_nil, List.pairwise_cons, List.mem_cons, List.not_mem_nil, or_false, forall_eq_or_imp, forall_eq, List.Pairwise.nil, and_true, implies_true, false_imp_iff]
    refine ⟨⟨fun g hg e => ?_, fun g hg e => ?_⟩, ha⟩
    · simp only [Value.ownBlock, Option.some.injEq] at hg
      have := (World.ownsRow.lt h1 g e).2
      omega
    · simp only [Value.ownBlock, Option.some.injEq] at hg
      have := (World.ownsRow.lt h2 g e).2
      omega

set_option maxHeartbeats 4000000 in
theorem act_any (B tb xb : Nat) (d : Int) (ka va : Value) (kb vb : List UInt8) (T : Option Tri) (xs : List EntV) (w : World) (hp : Pair (fun i => B ≤ i) w tb xb T xs) (hx : xs.map EntV.ent = Tri.entsO T) (hB : B ≤ w.heap.size) (hd : -9223372036854775808 ≤ d ∧ d ≤ 9223372036854775807)
    (hka : Shows B w ka kb) (hva : Shows B w va vb) (hkl : kb.length ≤ 4096) (hvl : vb.length ≤ 16384) (ht : Tables w) (htB : 2 + 1 ≤ B) (hfew : xs.length ≤ 1000) :
    Calls Tryd.prog 11 #[.pointer (some ⟨tb, 0, none⟩), .pointer (some ⟨xb, 0, none⟩), .agg #[.int .i64 d, ka, va]] w fun e W' => e = .returned (.bool true) ∧ ∃ T' ys, Pair (fun i => B ≤ i) W' tb xb T' ys ∧ ys.map EntV.ent = Tri.entsO T' ∧ ys.length ≤ xs.length + 1 ∧ Below B w W' := by
  obtain ⟨a1, c1, rfl, _⟩ := id hka
  obtain ⟨a2, c2, rfl, _⟩ := id hva
  have hb1 : Below B w (w.alloc (.cells #[.int .i64 d, .slice a1 kb.length c1, .slice a2 vb.length c2] 30)) := Below.alloc (Below.refl _ _) hB _
  have hz : (w.alloc (.cells #[.int .i64 d, .slice a1 kb.length c1, .slice a2 vb.length c2] 30)).heap.size = w.heap.size + 1 := size_alloc1 _ _
  have HL1 := hid (lent_any B (.slice a1 kb.length c1) kb _ (by omega) (hka.below hb1) (by omega))
  rw [hz] at HL1
  have HL2 := hid (fun (W2 : World) (hb2 : Below (w.heap.size + 1) (w.alloc (.cells #[.int .i64 d, .slice a1 kb.length c1, .slice a2 vb.length c2] 30)) W2) => lent_any B (.slice a2 vb.length c2) vb W2 (by have := hb2.size; omega) ((hva.below hb1).below (hb2.mono (by omega))) (by omega))
  have HMK := hid (fun (W2 W3 : World) (k' v' : Value) h1 h2 h3 h4 => in_make (d := d) (W2 := W2) (W3 := W3) (k' := k') (v' := v') hp hB hka hva hkl hvl ht htB h1 h2 h3 h4)
  have HX := hid hx
  have HC2 : Hid (∀ W2, Below (w.heap.size + 1) (w.alloc (.cells #[.int .i64 d, .slice a1 kb.length c1, .slice a2 vb.length c2] 30)) W2 → W2.cell? ⟨w.heap.size, 2, none⟩ = some (.slice a2 vb.length c2)) := hid (fun W2 hb2 => by
    have := (hb2.block w.heap.size (by omega)).trans (heap_alloc_new w _)
    simp [World.cell?, this])
  have HWF := hid hp.wf
  clear hp hx hka hva ht htB hb1 hz
  go_enter Tryd.func11, Tryd.ntmps11
  go_wp2_with fail
  refine HL1.out.mono ?_
  rintro e W2 ⟨k', rfl, hk', hb2⟩
  have hL2 := HL2.out W2 hb2
  have hc2 := HC2.out W2 hb2
  go_wp2_with fail
  refine hL2.mono ?_
  rintro e W3 ⟨v', rfl, hv', hb3⟩
  have HI := hid (HMK.out W2 W3 k' v' hk' hb2 hv' hb3)
  obtain ⟨gk, rfl, _⟩ := id hk'
  obtain ⟨gv, rfl, _⟩ := id hv'
  clear hk' hv' hb2 hb3 hL2 hc2 HL1 HL2 HMK HC2
  generalize W3.heap.size = M at *
  generalize w.heap.size = N at *
  have cd := HI.out.cells.1
  have hsame : (true && true) = true := rfl
  go_upto_block 0 with fail
  go_cut [9, 10, 11, 12, 13, 14] from 24 to 89 (fun u9 u10 u11 u12 u13 u14 wx => u9 = .bool true ∧ ∃ T' ys, ys.map EntV.ent = Tri.entsO T' ∧ ys.length ≤ xs.length + 1 ∧ Hid (In B N M w tb xb d (.slice a1 kb.length c1) (.slice a2 vb.length c2) (.slice (some ⟨gk, 0, none⟩) kb.length (kb.length + 1)) (.slice (some ⟨gv, 0, none⟩) vb.length (vb.length + 1)) kb vb T' ys wx))
  case first =>
    clear cd
    have hlT := len_ent HX.out
    by_cases hd0 : d = 0
    · subst hd0
      have HB0 := hid (HI.out.new (W' := W3.drew) (below_drewN _ _ 1))
      by_cases hs : Tri.short (kb, vb)
      · go_wp2_with fail
        go_region_held3 (fun w' => w'.cell? ⟨N, 1, none⟩ = some (.slice a1 kb.length c1) ∧ w'.cell? ⟨N, 2, none⟩ = some (.slice a2 vb.length c2))
          (first | exact HB0.out.cells.2 | exact HB5.out.cells.2 | exact HB6.out.cells.2)
          (first
            | (go_at_call 23; refine (in_put HB0.out hs (by omega)).mono ?_; rintro e w5 ⟨rfl, B5⟩; have HB5 := hid B5; clear B5)
            | (go_at_call 30; refine (in_xput HB5.out hs (by omega)).mono ?_; rintro e w6 ⟨rfl, ys, B6, hy⟩; have HB6 := hid B6; clear B6))
        have hfe : ys.map EntV.ent = Tri.entsO (some (Tri.put T (kb, vb))) := by rw [hy, HX.out]; exact put_row HWF.out _ hs
        have hle : ys.length ≤ xs.length + 1 := by rw [len_ent hfe, hlT]; exact put_few T _
        clear hy
        go_wp2_with fail
        go_meet
        exact ⟨rfl, _, ys, hfe, hle, HB6⟩
      · go_wp2_with fail
        go_region_held3 (fun w' => w'.cell? ⟨N, 1, none⟩ = some (.slice a1 kb.length c1) ∧ w'.cell? ⟨N, 2, none⟩ = some (.slice a2 vb.length c2))
          (first | exact HB0.out.cells.2 | exact HB5.out.cells.2 | exact HB6.out.cells.2)
          (first
            | (go_at_call 23; refine (in_long HB0.out hs).mono ?_; rintro e w5 ⟨rfl, B5⟩; have HB5 := hid B5; clear B5)
            | (go_at_call 30; refine (in_xlong HB5.out hs).mono ?_; rintro e w6 ⟨rfl, B6⟩; have HB6 := hid B6; clear B6))
        go_wp2_with fail
        go_meet
        exact ⟨rfl, _, xs, HX.out, by omega, HB6⟩
    · have he0 : (d == 0) = false := by rw [beq_eq_false_iff_ne]; exact hd0
      have hf0 : decide (d = 0) = false := decide_eq_false hd0
      by_cases hd1 : d = 1
      · subst hd1
        have HB0 := hid (HI.out.new (W' := W3.drew) (below_drewN _ _ 1))
        have HDE := hid (fun W h => in_delete (B := B) (N := N) (M := M) (w := w) (tb := tb) (xb := xb) (d := 1) (ka := .slice a1 kb.length c1) (va := .slice a2 vb.length c2) (k' := .slice (some ⟨gk, 0, none⟩) kb.length (kb.length + 1)) (v' := .slice (some ⟨gv, 0, none⟩) vb.length (vb.length + 1)) (kb := kb) (vb := vb) (T := T) (xs := xs) (W := W) h (by omega))
        have HXD := hid (fun W T' h => in_xdelete (B := B) (N := N) (M := M) (w := w) (tb := tb) (xb := xb) (d := 1) (ka := .slice a1 kb.length c1) (va := .slice a2 vb.length c2) (k' := .slice (some ⟨gk, 0, none⟩) kb.length (kb.length + 1)) (v' := .slice (some ⟨gv, 0, none⟩) vb.length (vb.length + 1)) (kb := kb) (vb := vb) (T := T) (T' := T') (xs := xs) (W := W) h HWF.out HX.out (by omega))
        generalize (look T kb).isSome = q at HDE HXD
        have hqq : (q == q) = true := by simp
        go_wp2_with fail
        go_region_held3 (fun w' => w'.cell? ⟨N, 1, none⟩ = some (.slice a1 kb.length c1) ∧ w'.cell? ⟨N, 2, none⟩ = some (.slice a2 vb.length c2))
          (first | exact HB0.out.cells.2 | exact HB5.out.cells.2 | exact HB6.out.cells.2)
          (first
            | (go_at_call 25; refine (HDE.out _ HB0.out).mono ?_; rintro e w5 ⟨rfl, B5⟩; have HB5 := hid B5; clear B5)
            | (go_at_call 31; refine (HXD.out _ _ HB5.out).mono ?_; rintro e w6 ⟨rfl, ys, B6, hy⟩; have HB6 := hid B6; clear B6))
        have hle : ys.length ≤ xs.length + 1 := by rw [len_ent hy, hlT]; have := drop_few T HWF.out kb; omega
        go_wp2_with fail
        go_meet
        exact ⟨rfl, _, ys, hy, hle, HB6⟩
      · have he1 : (d == 1) = false := by rw [beq_eq_false_iff_ne]; exact hd1
        have hf1 : decide (d = 1) = false := decide_eq_false hd1
        by_cases hd2 : d = 2
        · subst hd2
          have HG := hid (in_get HI.out)
          have HXG := hid (fun W h => in_xget (B := B) (N := N) (M := M) (w := w) (tb := tb) (xb := xb) (d := 2) (ka := .slice a1 kb.length c1) (va := .slice a2 vb.length c2) (k' := .slice (some ⟨gk, 0, none⟩) kb.length (kb.length + 1)) (v' := .slice (some ⟨gv, 0, none⟩) vb.length (vb.length + 1)) (kb := kb) (vb := vb) (T := T) (T' := T) (xs := xs) (W := W) h HWF.out HX.out (by omega))
          generalize (look T kb).isSome = q at HG HXG
          generalize (look T kb).getD [] = bs at HG HXG
          have hqq : (q == q) = true := by simp
          go_wp2_with fail
          refine HG.out.mono ?_
          rintro e W4 ⟨a4, c4, rfl, hc4, hb4⟩
          have HI4 := hid (HI.out.new hb4)
          have HC4 := hid hc4
          have HB4 := hid hb4
          have hk1 := HI4.out.cells.2.1
          clear hc4 hb4
          go_wp2_with fail
          refine (HXG.out _ HI4.out).mono ?_
          rintro e W5 ⟨a5, c5, rfl, hc5, hb5⟩
          have HI5 := hid (HI4.out.new hb5)
          have e1 := str4 (Copy.says (HC4.out.new hb5))
          have e2 := str4 (Copy.says hc5)
          have HB5 := hid (HB4.out.trans (hb5.mono HB4.out.size))
          have HOW := hid (own_one W3.heap.size W5 (.slice a4 bs.length c4) HB5.out.size (full_of_owns (HC4.out.new hb5)))
          have HEN : Hid (∀ W6, Spares (fun i => (Value.slice a4 bs.length c4).ownBlock = some i) W5 W6 → In B N M w tb xb 2 (.slice a1 kb.length c1) (.slice a2 vb.length c2) (.slice (some ⟨gk, 0, none⟩) kb.length (kb.length + 1)) (.slice (some ⟨gv, 0, none⟩) vb.length (vb.length + 1)) kb vb T xs W6) := hid (fun W6 hs => HI.out.new (HB5.out.trans (hs.below (fun i hi => (HC4.out.lt i hi).1) HB5.out.size)))
          clear hc5 hb5 hk1
          go_wp2_with fail
          refine HOW.out.mono ?_
          rintro e W6 ⟨rfl, hs6⟩
          have HI6 := hid (HEN.out W6 hs6)
          clear hs6 e1 e2
          go_wp2_with fail
          go_meet
          exact ⟨rfl, _, xs, HX.out, by omega, HI6⟩
        · have he2 : (d == 2) = false := by rw [beq_eq_false_iff_ne]; exact hd2
          have hf2 : decide (d = 2) = false := decide_eq_false hd2
          by_cases hd3 : d = 3
          · subst hd3
            have HP := hid (path_B 0 tb T _ kb W3 HI.out.pair.tree HI.out.says.1 HI.out.tbl (by omega))
            have HXP := hid (fun W h => in_xpath (B := B) (N := N) (M := M) (w := w) (tb := tb) (xb := xb) (d := 3) (ka := .slice a1 kb.length c1) (va := .slice a2 vb.length c2) (k' := .slice (some ⟨gk, 0, none⟩) kb.length (kb.length + 1)) (v' := .slice (some ⟨gv, 0, none⟩) vb.length (vb.length + 1)) (kb := kb) (vb := vb) (T := T) (T' := T) (xs := xs) (W := W) h HWF.out HX.out (by omega))
            have HLL := hid (steps_sums T kb HWF.out)
            have hll : (stepsO T kb).length ≤ 140737488355328 := by have := steps_few T kb; omega
            generalize ((T.map (·.near kb)).map (·.1)).getD [] = kp at HP HXP
            generalize ((T.map (·.near kb)).map (·.2)).getD [] = vp at HP HXP
            generalize T.isNone = bo at HP HXP
            generalize stepsO T kb = L at HP HXP HLL hll
            go_wp2_with fail
            refine HP.out.mono ?_
            rintro e W4 ⟨ek, ev, sv, rfl, hk4, hv4, hr4, ha4, hb4⟩
            obtain ⟨a4, c4, rfl⟩ := hk4.form
            obtain ⟨a5, c5, rfl⟩ := hv4.form
            obtain ⟨a6, c6, rfl⟩ := form34 hr4
            have hbn : Below W4.heap.size W4 (W4.alloc (.cells #[.bool bo, .slice a4 kp.length c4, .slice a5 vp.length c5, .slice a6 L.length c6] 59)) := Below.alloc (Below.refl _ _) (Nat.le_refl _) _
            have HI5 := hid (((HI.out.new hb4).new hbn).new (W' := (W4.alloc (.cells #[.bool bo, .slice a4 kp.length c4, .slice a5 vp.length c5, .slice a6 L.length c6] 59)).drew) (below_drewN _ _ 1))
            have HO5 := hid (show (W4.alloc (.cells #[.bool bo, .slice a4 kp.length c4, .slice a5 vp.length c5, .slice a6 L.length c6] 59)).drew.heap[W4.heap.size]? = _ from heap_alloc_new W4 _)
            have HK5 := hid ((hk4.new hbn).new (below_drewN _ _ 1))
            have HV5 := hid ((hv4.new hbn).new (below_drewN _ _ 1))
            have HR5 := hid ((Spares.of_new (S := fun _ => False) (hbn.trans (below_drewN _ _ 1))).row hr4 (fun _ _ => id))
            have HA4 := hid ha4
            have HB5 := hid ((hb4.trans (hbn.mono hb4.size)).trans (below_drewN _ _ 1))
            have HBI := HB5
            clear hk4 hv4 hr4 ha4 hb4 hbn HP
            have HX5 := HXP.out _ HI5.out
            go_wp2_with fail
            generalize hgW : (W4.alloc (.cells #[.bool bo, .slice a4 kp.length c4, .slice a5 vp.length c5, .slice a6 L.length c6] 59)) = W5 at *
            go_region_held3 (fun w' => (w'.cell? ⟨W4.heap.size, 0, none⟩ = some (.bool bo) ∧ w'.cell? ⟨W4.heap.size, 1, none⟩ = some (.slice a4 kp.length c4) ∧ w'.cell? ⟨W4.heap.size, 2, none⟩ = some (.slice a5 vp.length c5) ∧ w'.cell? ⟨W4.heap.size, 3, none⟩ = some (.slice a6 L.length c6)) ∧ w'.cell? ⟨N, 1, none⟩ = some (.slice a1 kb.length c1))
              (first | exact ⟨proof_cells HO5.out, HI5.out.cells.2.1⟩ | exact ⟨proof_cells HO6.out, HI6.out.cells.2.1⟩ | exact ⟨proof_cells HO7.out, HI7.out.cells.2.1⟩)
              (first
                | (go_at_call 35; refine HX5.mono ?_; clear HX5; rintro e W6 ⟨fk, fv, tv, rfl, hk6, hv6, hr6, hb6⟩
                   have HI6 := hid (HI5.out.new hb6)
                   have HO6 := hid (row_kept HO5.out hb6)
                   have HB6 := hid (HB5.out.trans (hb6.mono HB5.out.size))
                   have HK6 := hid (HK5.out.new hb6)
                   have HV6 := hid (HV5.out.new hb6)
                   obtain ⟨a7, c7, rfl⟩ := hk6.form
                   obtain ⟨a8, c8, rfl⟩ := hv6.form
                   obtain ⟨a9, c9, rfl⟩ := form34 hr6
                   have HSM := hid (sameProof_any _ _ 0 bo _ _ _ _ _ _ kp vp L W6 (Copy.says HK6.out) (Copy.says HV6.out) (Copy.says hk6) (Copy.says hv6) HLL.out ((Spares.of_new (S := fun _ => False) hb6).row HR5.out (fun _ _ => id)) hr6 hll)
                   clear hk6 hv6 hr6 hb6)
                | (go_at_call 34; refine HSM.out.mono ?_; clear HSM; rintro e W7 ⟨rfl, hb7⟩
                   have HI7 := hid (HI6.out.new hb7)
                   have HO7 := hid (row_kept HO6.out hb7)
                   have HB7 := hid (HB6.out.trans (hb7.mono HB6.out.size))
                   have HK7 := hid (HK6.out.new hb7)
                   have HV7 := hid (HV6.out.new hb7)
                   clear hb7))
            have HSP := hid (spoil_any W3.heap.size _ _ _ (by rw [size_alloc1]; have := HB7.out.size; omega) (rowed_one HB7.out.size HK7.out HV7.out HA4.out))
            have HFN := hid (fun (W8 : World) (h8 : Below W3.heap.size _ W8) => HI.out.new ((Below.alloc HB7.out HB7.out.size (.cells #[.slice a4 kp.length c4, .slice a5 vp.length c5] 52)).trans h8))
            obtain ⟨p0, p1, p2, p3⟩ := proof_cells HO7.out
            go_wp2_with fail
            refine HSP.out.mono ?_
            rintro e W8 ⟨rfl, hb8⟩
            have HI8 := hid (HFN.out W8 hb8)
            clear hb8
            go_wp2_with fail
            go_meet
            exact ⟨rfl, _, xs, HX.out, by omega, HI8⟩
          · have he3 : (d == 3) = false := by rw [beq_eq_false_iff_ne]; exact hd3
            have hf3 : decide (d = 3) = false := decide_eq_false hd3
            go_wp2_with fail
            go_meet
            exact ⟨rfl, T, xs, HX.out, by omega, HI⟩
  case rest =>
    obtain ⟨rfl, T', ys, hy, hl, HJ⟩ := hcut
    clear HI cd
    have c1' := HJ.out.cells.2.1
    have c2' := HJ.out.cells.2.2
    have HK1 := hid (kept_any _ _ _ _ kb _ HJ.out.k HJ.out.ka (by omega))
    have HK2 := hid (kept_any _ _ _ _ vb _ HJ.out.v HJ.out.va (by omega))
    have HEN := hid (in_end HJ.out)
    have HY := hid hy
    clear hy
    go_wp2_with fail
    refine HK1.out.mono ?_
    rintro e w' ⟨rfl, e'⟩
    rw [e']
    clear e' w'
    go_wp2_with fail
    refine HK2.out.mono ?_
    rintro e w' ⟨rfl, e'⟩
    rw [e']
    clear e' w'
    go_wp2_with fail
    refine HEN.out.mono ?_
    rintro e W7 ⟨rfl, hp7, hb7⟩
    go_wp2_with fail
    go_ret
    exact ⟨rfl, T', ys, hp7, HY.out, hl, hb7⟩
end Go.Proofs.YthkeofinamedfaaDoor
