/- Contract of proof.Texts. -/
import Derived.Test.YtmafaioohiaenaaDoorBackZ
import Derived.Test.YtmafaioohiaenaaDoorCodec
namespace Go.Proofs.YtmafaioohiaenaaDoor
open Go.RowKit Go.Shelf
set_option linter.unusedVariables false
set_option linter.unusedSimpArgs false
set_option maxRecDepth 20000
attribute [local go_sem] Oper.semAt_some

/-- The texts from a text up, over steps; the last one. -/
def upZ (t : List UInt8) : List Zst → List (List UInt8)
  | [] => [t]
  | s :: r => t :: upZ (stepZ s (sha t)) r

def topU (t : List UInt8) (r : List Zst) : List UInt8 := r.foldl (fun t s => stepZ s (sha t)) t

theorem upZ_snoc : ∀ (r : List Zst) (t : List UInt8) (s : Zst), upZ t (r ++ [s]) = upZ t r ++ [stepZ s (sha (topU t r))]
  | [], t, s => rfl
  | x :: r, t, s => by
    simp only [List.cons_append, upZ, upZ_snoc r]
    rfl

theorem upZ_length : ∀ (r : List Zst) (t : List UInt8), (upZ t r).length = r.length + 1
  | [], t => rfl
  | x :: r, t => by simp [upZ, upZ_length r]

theorem topU_snoc (r : List Zst) (t : List UInt8) (s : Zst) : topU t (r ++ [s]) = stepZ s (sha (topU t r)) := by simp [topU]

theorem upZ_last : ∀ (r : List Zst) (t : List UInt8), (upZ t r).getLast? = some (topU t r)
  | [], t => rfl
  | x :: r, t => by
    simp only [upZ, List.getLast?_cons, upZ_last r]
    rfl

/-- Its texts. -/
def Prf.texts (p : Prf) : List (List UInt8) := if p.may then upZ p.endZ p.st.reverse else []

theorem textOf_fits (name : List UInt8) (rows : List (List UInt8)) (h1 : name.length ≤ 16) (h2 : rows.length < 4096) (h3 : ∀ r ∈ rows, r.length ≤ 65536) : textOf name rows = (0, rowBytes (name :: rows)) := by
  unfold textOf
  rw [if_neg (by omega)]
  unfold rowOf
  rw [if_neg]
  rintro (h | ⟨m, hm, hl⟩)
  · simp at h; omega
  · rw [List.getElem?_eq_getElem hm] at hl
    rcases List.mem_cons.1 (List.getElem_mem hm) with e | e
    · simp only [Option.getD_some] at hl; rw [e] at hl; omega
    · have := h3 _ e
      simp only [Option.getD_some] at hl
      omega

theorem rowBytes_pos (rows : List (List UInt8)) : 0 < (rowBytes rows).length := by
  simp only [rowBytes, List.length_append, be_length]
  omega

theorem forkZ_pos (i : Int) (a b : List UInt8) (ha : a.length = 32) (hb : b.length = 32) : 0 < (forkZ i a b).length := by
  unfold forkZ
  rw [textOf_fits _ _ (by decide) (by simp) (by intro r hr; simp at hr; rcases hr with rfl | rfl | rfl <;> simp [be_length, ha, hb])]
  exact rowBytes_pos _

theorem stepZ_pos (s : Zst) (near : List UInt8) (h : ZOk s) (hn : near.length = 32) : 0 < (stepZ s near).length := by
  unfold stepZ
  split
  · exact forkZ_pos _ _ _ h.len hn
  · exact forkZ_pos _ _ _ hn h.len

theorem stepZ_le (s : Zst) (near : List UInt8) : (stepZ s near).length ≤ 1099511627776 := by
  unfold stepZ
  split <;> exact textOf_length _ _

theorem endZ_le (p : Prf) : p.endZ.length ≤ 1099511627776 := by
  unfold Prf.endZ
  split <;> exact textOf_length _ _

theorem endZ_pos (p : Prf) (h : p.may = true) : 0 < p.endZ.length := by
  unfold Prf.endZ
  split
  · unfold noneZ
    rw [textOf_fits _ _ (by decide) (by simp) (by simp)]
    exact rowBytes_pos _
  · rename_i hno
    simp only [Prf.may, hno, Bool.false_eq_true, if_false, Bool.and_eq_true, decide_eq_true_eq] at h
    unfold leafZ
    rw [textOf_fits _ _ (by decide) (by simp) (by intro r hr; simp at hr; rcases hr with rfl | rfl <;> omega)]
    exact rowBytes_pos _

/-- What Texts' loop has in hand. -/
structure TexI (w : World) (n : Nat) (t0 : List UInt8) {L : List Zst} (pre : List (Zi L)) (W : World) (tv rv : Value) (vs : List Value) : Prop where
  tbox : W.heap[n]? = some (.cells #[tv] 24 (0, 0))
  rbox : W.heap[n + 2]? = some (.cells #[rv] 32 (0, 0))
  sbox : ∃ sv, W.heap[n + 3]? = some (.cells #[sv] 27 (0, 0))
  row : W.ownsRow (n + 1) 24 1 rv (upZ t0 (toldZ pre)).length vs
  rows : RowsOwn W w.heap.size vs (upZ t0 (toldZ pre))
  cur : vs.getLast? = some tv
  below : Below w.heap.size w W
  low : w.heap.size ≤ n
  big : n + 4 ≤ W.heap.size

theorem texI_own1 {w : World} {n B : Nat} {t0 : List UInt8} {L : List Zst} {tv rv : Value} {vs : List Value} (hB : w.heap.size ≤ B) : OwnFrom B (fun (pre : List (Zi L)) W => TexI w n t0 pre W tv rv vs) := fun s W W' row h hg hr => by
  obtain ⟨sv, hsv⟩ := h.sbox
  exact ⟨cells_own () W W' row h.tbox hg hr, cells_own () W W' row h.rbox hg hr, ⟨sv, cells_own () W W' row hsv hg hr⟩, row_own h.row hg hr,
    ⟨h.rows.len, fun j v r hv hr' => ⟨row_own (h.rows.own j v r hv hr').1 hg hr, (h.rows.own j v r hv hr').2⟩, h.rows.apart⟩, h.cur,
    (spares_own (S := fun _ => False) hB () W W' row (Spares.of_new h.below) hg hr).below (fun i hi => hi.elim) (Nat.le_refl _), h.low, Nat.le_trans h.big hg.size⟩

theorem texI_own {w : World} {n B : Nat} {t0 : List UInt8} {L : List Zst} (hB : w.heap.size ≤ B) : OwnFrom B (fun (pre : List (Zi L)) W => ∃ tv rv vs, TexI w n t0 pre W tv rv vs) := fun s W W' row hs hg hr => by
  obtain ⟨tv, rv, vs, h⟩ := hs
  exact ⟨tv, rv, vs, texI_own1 hB s W W' row h hg hr⟩

theorem TexI.new {w W W' : World} {n : Nat} {t0 : List UInt8} {L : List Zst} {pre : List (Zi L)} {tv rv : Value} {vs : List Value} (h : TexI w n t0 pre W tv rv vs) (hb : Below W.heap.size W W') : TexI w n t0 pre W' tv rv vs := by
  obtain ⟨sv, hsv⟩ := h.sbox
  have hbig := h.big
  exact ⟨(hb.block _ (by omega)).trans h.tbox, (hb.block _ (by omega)).trans h.rbox, ⟨sv, (hb.block _ (by omega)).trans hsv⟩, ownsRow_below h.row hb, h.rows.below hb, h.cur, h.below.trans (hb.mono h.below.size), h.low, Nat.le_trans hbig hb.size⟩

theorem row_type {W : World} {B e s n : Nat} {v : Value} {xs : List Value} (h : W.ownsRow B e s v n xs) {g : Nat} (hg : v.ownBlock = some g) : ∃ cs, W.heap[g]? = some (.cells cs e (0, 0)) := by
  rcases h.2 with ⟨rfl, _⟩ | ⟨g', cap, cur, rfl, _, hh, _⟩
  · cases hg
  · simp only [Value.ownBlock, Option.some.injEq] at hg
    subst hg
    exact ⟨cur, hh⟩

theorem tex_step {w W W1 W2 W3 W4 : World} {n B g cap : Nat} {t0 : List UInt8} {L : List Zst} {pre : List (Zi L)} {tv rv v' : Value} {vs : List Value} {tx : List UInt8} (hI : TexI w n t0 pre W tv rv vs) (x : Zi L)
    (htx : stepZ x.1.2 (sha (topU t0 (toldZ pre))) = tx) (h1 : Below W.heap.size W W1) (ho : W1.ownsRow W.heap.size 5 1 v' tx.length (tx.map by8)) (hpos : 0 < tx.length)
    (hW2 : W1.setCell ⟨n, 0, none⟩ v' = W2) (hW3 : W2.alloc (.cells #[v'] 24) = W3) (hg : W3.grownBy W4 rv.ownBlock)
    (hown : W4.ownsRow (n + 1) 24 1 (.slice (some ⟨g, 0, none⟩) ((upZ t0 (toldZ pre)).length + 1) cap) ((upZ t0 (toldZ pre)).length + 1) (vs ++ [v'])) (hat : rv.ownBlock = some g ∨ g = W3.heap.size) :
    KeepsFrom B W (W4.setCell ⟨n + 2, 0, none⟩ (.slice (some ⟨g, 0, none⟩) ((upZ t0 (toldZ pre)).length + 1) cap)) ∧ KpB w.heap.size (n + 3) W (W4.setCell ⟨n + 2, 0, none⟩ (.slice (some ⟨g, 0, none⟩) ((upZ t0 (toldZ pre)).length + 1) cap)) ∧
      ∃ tv rv vs, TexI w n t0 (pre ++ [x]) (W4.setCell ⟨n + 2, 0, none⟩ (.slice (some ⟨g, 0, none⟩) ((upZ t0 (toldZ pre)).length + 1) cap)) tv rv vs := by
  have hbig := hI.big
  have hlw := hI.low
  obtain ⟨sv, hsb⟩ := hI.sbox
  have hlow : ∀ i, rv.ownBlock = some i → n + 1 ≤ i ∧ i < W.heap.size := fun i hi => hI.row.lt i hi
  have hrt : ∀ i, rv.ownBlock = some i → i ≠ n + 2 ∧ i ≠ n + 3 := fun i hi => by
    obtain ⟨cs, hc⟩ := row_type hI.row hi
    refine ⟨fun e => ?_, fun e => ?_⟩
    · rw [e, hI.rbox] at hc; cases hc
    · rw [e, hsb] at hc; cases hc
  have hz1 := h1.size
  have s2 : Spares (fun i => i = n) W1 W2 := by rw [← hW2]; exact spares_set W1 ⟨n, 0, none⟩ v'
  have s3 : Spares (fun i => i = n) W1 W3 := by rw [← hW3]; exact s2.andThen (Spares.of_new (S := fun _ => False) ((Below.refl _ _).alloc (Nat.le_refl _) _)) (fun i h => h.elim)
  have s4 : Spares (fun i => i = n ∨ rv.ownBlock = some i) W1 W4 := (s3.mono fun i hi => .inl hi).andThen (Spares.of_grown (S := fun i => rv.ownBlock = some i) hg (fun k e => e)) (fun i hi => .inl (.inr hi))
  obtain ⟨W5, hW5⟩ : ∃ W5, W4.setCell ⟨n + 2, 0, none⟩ (.slice (some ⟨g, 0, none⟩) ((upZ t0 (toldZ pre)).length + 1) cap) = W5 := ⟨_, rfl⟩
  have s45 : Spares (fun i => i = n + 2) W4 W5 := by rw [← hW5]; exact spares_set W4 ⟨n + 2, 0, none⟩ _
  have s5 : Spares (fun i => i = n ∨ i = n + 2 ∨ rv.ownBlock = some i) W1 W5 := (s4.mono fun i hi => hi.elim .inl (fun h => .inr (.inr h))).andThen s45 (fun i hi => .inl (.inr (.inl hi)))
  have sp : Spares (fun i => i = n ∨ i = n + 2 ∨ rv.ownBlock = some i) W W5 := (Spares.of_new (S := fun _ => False) h1 |>.mono (fun i h => h.elim)).andThen s5 (fun i hi => .inl hi)
  have hS0 : ∀ i, (i = n ∨ i = n + 2 ∨ rv.ownBlock = some i) → w.heap.size ≤ i := by
    rintro i (rfl | rfl | hi)
    · omega
    · omega
    · have := (hlow i hi).1; omega
  have hSW : ∀ i, (i = n ∨ i = n + 2 ∨ rv.ownBlock = some i) → i < W.heap.size := by
    rintro i (rfl | rfl | hi)
    · omega
    · omega
    · exact (hlow i hi).2
  have hg1 : n + 1 ≤ g := by
    rcases hat with h | h
    · exact (hlow g h).1
    · have := s3.size; omega
  have hgn2 : g ≠ n + 2 := by
    rcases hat with h | h
    · exact (hrt g h).1
    · have := s3.size; omega
  rw [hW5]
  have nS2 : ¬ (n + 2 = n ∨ rv.ownBlock = some (n + 2)) := by
    rintro (e | e)
    · omega
    · exact (hrt _ e).1 rfl
  have nS3 : ¬ (n + 3 = n ∨ n + 3 = n + 2 ∨ rv.ownBlock = some (n + 3)) := by
    rintro (e | e | e)
    · omega
    · omega
    · exact (hrt _ e).2 rfl
  have hbox4 := (s4.block (n + 2) (by omega) nS2).trans ((h1.block _ (by omega)).trans hI.rbox)
  have htb2 : W2.heap[n]? = some (.cells #[v'] 24 (0, 0)) := by
    rw [← hW2]
    exact heap_setCell_same _ _ _ _ _ _ ((h1.block _ (by omega)).trans hI.tbox)
  have htb3 : W3.heap[n]? = some (.cells #[v'] 24 (0, 0)) := by
    rw [← hW3, Below.heap_alloc _ _ _ (block_lt htb2)]
    exact htb2
  have htb5 : W5.heap[n]? = some (.cells #[v'] 24 (0, 0)) := by
    rw [s45.block n (by have := s4.size; omega) (by omega), hg.block n (block_lt htb3) (fun e => by have := (hlow n e.symm).1; omega)]
    exact htb3
  have hlen : (upZ t0 (toldZ (pre ++ [x]))) = upZ t0 (toldZ pre) ++ [tx] := by rw [toldZ_snoc, upZ_snoc, htx]
  have hro : RowsOwn W5 w.heap.size vs (upZ t0 (toldZ pre)) := ⟨hI.rows.len, fun j v r hv hr => ⟨sp.row (hI.rows.own j v r hv hr).1 (fun i hi hs => by
      obtain ⟨cs, hc⟩ := row_type (hI.rows.own j v r hv hr).1 hi
      rcases hs with rfl | rfl | hs
      · rw [hI.tbox] at hc; cases hc
      · rw [hI.rbox] at hc; cases hc
      · obtain ⟨cs', hc'⟩ := row_type hI.row hs
        rw [hc'] at hc; cases hc), (hI.rows.own j v r hv hr).2⟩, hI.rows.apart⟩
  have hv5 : W5.ownsRow W.heap.size 5 1 v' tx.length (tx.map by8) := s5.row ho (fun i hi hs => by have h2 := (ho.lt i hi).1; have h3 := hSW i hs; omega)
  have hvn : v' ≠ .slice none 0 0 := fun e => by
    rcases ho.2 with ⟨_, h0⟩ | ⟨g', cap', cur, h0, _⟩
    · omega
    · rw [e] at h0; cases h0
  refine ⟨keepsFrom_of sp ?_, ⟨sp.below hS0 hI.below.size, sp.block _ (by omega) nS3⟩, v', .slice (some ⟨g, 0, none⟩) ((upZ t0 (toldZ pre)).length + 1) cap, vs ++ [v'], ?_⟩
  · rintro i (rfl | rfl | hi)
    · exact ⟨_, _, _, hI.tbox⟩
    · exact ⟨_, _, _, hI.rbox⟩
    · exact row_cells hI.row hi
  · refine ⟨htb5, by rw [← hW5]; exact heap_setCell_same _ _ _ _ _ _ hbox4, ⟨sv, (sp.block _ (by omega) nS3).trans hsb⟩, ?_, ?_, by simp, hI.below.trans (sp.below hS0 hI.below.size), hlw, Nat.le_trans hbig sp.size⟩
    · rw [hlen, List.length_append]
      exact s45.row hown (fun i hi e => by
        have : g = i := by simpa [Value.ownBlock] using hi
        exact hgn2 (this.trans e))
    · rw [hlen]
      exact hro.snoc (C := W.heap.size) hI.below.size hv5 (own_shape hv5 hvn) (fun u hu i hi => (hI.rows.lt u hu i hi).2)

theorem rises_length (e : Int) : ∀ (L : List Zst) (m : Int), risesZ e m L = true → L = [] ∨ m + L.length ≤ e
  | [], m, _ => .inl rfl
  | s :: r, m, h => by
    simp only [risesZ] at h
    split at h
    · cases h
    · rename_i hs
      rcases rises_length e r (s.1 + 1) h with h2 | h2
      · subst h2; right; simp; omega
      · right; simp; omega

theorem may_length (p : Prf) (h : p.may = true) : p.st.length ≤ 1081 := by
  unfold Prf.may at h
  split at h
  · have := (of_decide_eq_true h).2.2; omega
  · simp only [Bool.and_eq_true, decide_eq_true_eq] at h
    rcases rises_length _ _ _ h.2.2.1 with h2 | h2
    · rw [h2]; simp
    · omega

theorem Tryd.infoBytesZ : (Tryd.prog.info? 24).map (·.size) = some 1 := by kernel_rfl

set_option maxHeartbeats 4000000 in
theorem texts_in (B : Nat) (p : Prf) (kv vv sv : Value) (w : World) (hB : B ≤ w.heap.size) (hp : PAt B w p kv vv sv) (hT : Tables w) (hm : p.may = true) :
    Calls Tryd.prog 13 #[.agg #[.bool p.no, kv, vv, sv]] w fun e w' => ∃ rv, e = .returned rv ∧ RowsAt w' w.heap.size rv (upZ p.endZ p.st.reverse) ∧ Below w.heap.size w w' := by
  obtain ⟨ka, kc, rfl, hk1, hk2, _⟩ := id hp.hk
  obtain ⟨va, vc, rfl, hv1, hv2, _⟩ := id hp.hv
  obtain ⟨sa, sc, rfl, hs1, hs2⟩ := hp.hs.form
  have hbn : Below w.heap.size w (w.alloc (.cells #[.bool p.no, .slice ka p.k.length kc, .slice va p.v.length vc, .slice sa p.st.length sc] 29)) := (Below.refl _ _).alloc (Nat.le_refl _) _
  have hnew := World.alloc_heap_new w (.cells #[.bool p.no, .slice ka p.k.length kc, .slice va p.v.length vc, .slice sa p.st.length sc] 29)
  have hsn : (w.alloc (.cells #[.bool p.no, .slice ka p.k.length kc, .slice va p.v.length vc, .slice sa p.st.length sc] 29)).heap.size = w.heap.size + 1 := World.size_alloc _ _
  have HM := may_any B p _ _ _ _ (by omega) (hp.below (hbn.mono hB))
  rw [hm] at HM
  have HP := hid hp
  have hp0 := hp
  clear hp
  refine (callsIn_wide (n := 3)).1 ?_
  refine callsIn_of_wp_marks Tryd.func13 rfl trivial ?_ rfl
  simp only [Tryd.ntmps13, List.size_toArray, List.length_cons, List.length_nil, Nat.reduceAdd, Nat.reduceSub, Array.replicate_succ, Array.replicate_zero, List.push_toArray, List.append_toArray, List.nil_append, List.cons_append]
  gi_wp2_with (refine ⟨trivial, ?_⟩; first
    | (gi_at_call 44; refine (callsIn_wide.2 HM).mono ?_; clear HM; rintro e w1 ⟨rfl, hb1⟩
       have hbx1 := (hb1.block _ (by rw [hsn]; exact Nat.lt_succ_self _)).trans hnew
       have hbw1 := hbn.trans (hb1.mono hbn.size)
       have hz1 := hb1.size
       rw [hsn] at hz1
       obtain ⟨d0, d1, d2, d3⟩ := proof_cells hbx1
       have HE := endText_any B p _ _ _ w1 (by omega) (HP.out.below (hbw1.mono hB))
       clear hb1 hbn hnew hsn)
    | (gi_at_call 45; refine (callsIn_wide.2 HE).mono ?_; clear HE; rintro e w2 ⟨tv, rfl, hto, hb2⟩
       obtain ⟨ta, tc, rfl⟩ := row_form hto
       have hbx2 := (hb2.block _ (block_lt hbx1)).trans hbx1
       have hbw2 := hbw1.trans (hb2.mono hbw1.size)
       have hz2 := hb2.size
       obtain ⟨f0, f1, f2, f3⟩ := proof_cells hbx2
       have g3 : (((w2.alloc (.cells #[.slice ta p.endZ.length tc] 24)).alloc (.cells #[.slice ta p.endZ.length tc] 24)).alloc (.cells #[.slice (some ⟨w2.heap.size + 1, 0, none⟩) 1 1] 32)).cell? ⟨w.heap.size, 3, none⟩ = some (.slice sa p.st.length sc) :=
         ((((Below.refl w2.heap.size w2).alloc (Nat.le_refl _) _).alloc (by simp) _).alloc (by simp; omega) _).cell (p := ⟨w.heap.size, 3, none⟩) (block_lt hbx2) |>.trans f3
       clear d0 d1 d2 d3 hb2)
    | (gi_at_call 46; refine (callsIn_wide.2 (back_any _ _ _ _)).mono ?_; rintro e w' ⟨rfl, rfl⟩))
  obtain ⟨w6, hw6, c0, c1, c2, c3, hB6, hsz6⟩ := alloc4 w2 (.cells #[.slice ta p.endZ.length tc] 24) (.cells #[.slice ta p.endZ.length tc] 24) (.cells #[.slice (some ⟨w2.heap.size + 1, 0, none⟩) 1 1] 32) (.cells #[.slice sa p.st.length sc] 27)
  rw [hw6]
  clear hw6 g3 f0 f1 f2 f3
  obtain ⟨n, hn⟩ : ∃ n, w2.heap.size = n := ⟨_, rfl⟩
  rw [hn] at c0 c1 c2 c3 hsz6 hz2
  rw [hn]
  have hBw : Below w.heap.size w w6 := hbw2.trans (hB6.mono hbw2.size)
  have hst6 : Stps w.heap.size w6 (.slice sa p.st.length sc) p.st := (HP.out.hs.below (hBw.mono hB)).mono hB
  have hto6 := (Spares.of_new (S := fun _ => False) hB6).row hto (fun _ _ => id)
  have h0 : ∃ tv rv vs, TexI w n p.endZ ([] : List (Zi p.st)) w6 tv rv vs := by
    refine ⟨.slice ta p.endZ.length tc, .slice (some ⟨n + 1, 0, none⟩) 1 1, [.slice ta p.endZ.length tc], c0, c2, ⟨_, c3⟩, ⟨rfl, .inr ⟨n + 1, 1, #[.slice ta p.endZ.length tc], rfl, Nat.le_refl _, c1, Nat.le_refl _, by decide, rfl, rfl⟩⟩, ?_, rfl, hBw, by omega, by omega⟩
    refine (RowsOwn.nil w6 w.heap.size).snoc (C := w1.heap.size) (by omega) hto6 (own_shape hto6 (fun e => ?_)) (fun u hu => (by cases hu))
    have := endZ_pos p hm
    simp only [Value.slice.injEq] at e
    omega
  have HSH := hid hp0.hs.ok
  refine wpIn_rangeFunc_ownH rfl (by omega) (gf := 79) (lb := #[.pointer (some ⟨n + 1 + 1 + 1, 0, none⟩)]) rfl trivial (enters_of Tryd.func79 (by kernel_rfl) rfl)
    (back_stops _ (n + 1 + 1 + 1) w.heap.size sa sc p.st w6 c3 hst6 hBw.size) kpB_t (kpB_b hBw.size (by omega)) (Below.refl _ _) (fun _ => rfl)
    (fun pre W => ∃ tv rv vs, TexI w n p.endZ pre W tv rv vs)
    (fun _ _ _ => False)
    (texI_own (by omega))
    (fun _ _ _ _ _ hs _ _ => hs)
    h0
    (fun y a' W => ∃ eb, a' = { tmps := #[.agg #[.bool p.no, .slice ka p.k.length kc, .slice va p.v.length vc, .slice sa p.st.length sc], .pointer (some ⟨w.heap.size, 0, none⟩), .slice none 0 0, .pointer (some ⟨n, 0, none⟩), .pointer (some ⟨n + 1 + 1, 0, none⟩), undef, .pointer (some ⟨eb, 0, none⟩), .agg #[.bool p.no, .slice ka p.k.length kc, .slice va p.v.length vc, .slice sa p.st.length sc], .bool true, .bool false, .agg #[.bool p.no, .slice ka p.k.length kc, .slice va p.v.length vc, .slice sa p.st.length sc], .slice ta p.endZ.length tc, .slice ta p.endZ.length tc, .slice (some ⟨n + 1, 0, none⟩) 1 1, .pointer (some ⟨w.heap.size, 3, none⟩), .slice sa p.st.length sc, .func (.func 79) #[] #[.pointer (some ⟨n + 1 + 1 + 1, 0, none⟩)], .int .i64 (y.1.1 : Int), .agg (zc y.1.2).toArray, undef, undef, undef, undef, undef, undef, undef, undef, undef], defers := [] } ∧ W.heap[eb]? = some (.cells (zc y.1.2).toArray 66 (0, 0)))
    (fun y a' s W W' row hs hg hr => by
      obtain ⟨eb, h1, h2⟩ := hs
      exact ⟨eb, h1, cells_own () W W' row h2 hg hr⟩)
    ?assign ?body ?done ?stop
  case stop =>
    rintro D cd pre W _ _ h _
    exact h.elim
  case assign =>
    rintro l pre ⟨⟨yi, s⟩, hy⟩ W K ⟨tv, rv, vs, hI⟩ hK
    have hok : ZOk s := HSH.out s (List.mem_of_getElem? hy)
    have HST := hid (isStep hok)
    obtain ⟨x1, x2, x3⟩ := box_step W s hok (.cells zeroStep 66) rfl
    have HI := hid hI
    have HK := hid hK
    have HX := hid (And.intro x1 x2)
    clear hI hK x1 x2 x3
    gi_wp2_with (refine listRound_op rfl (fun c h => by cases h) (wp_store_row 66 (.tmp 6) (.tmp 18) rfl W.heap.size (zc s).toArray rfl rfl 66 zeroStep (World.alloc_heap_new W _) HST.out.info HST.out.size HST.out.one ?_))
    refine HK.out _ _ (keepsFrom_of (S := fun _ => False) (Spares.of_new HX.out.2) (fun i h => h.elim)) ⟨HX.out.2.mono HI.out.below.size, HX.out.2.block _ (by have := HI.out.big; omega)⟩ ⟨tv, rv, vs, HI.out.new HX.out.2⟩ ⟨W.heap.size, rfl, HX.out.1⟩
  case done =>
    rintro D ys W hD hS ⟨tv, rv, vs, hI⟩ hK
    have g0 : W.cell? ⟨n + 1 + 1, 0, none⟩ = some rv := by rw [cell_of_row _ _ _ _ _ _ hI.rbox]; rfl
    obtain ⟨ra, rc, rfl⟩ := row_form hI.row
    have HI := hid ((texI_own1 (Nat.le_refl _)).putObj (.deferred none) hI (by omega) hK rfl)
    have hlow := hI.low
    clear hI
    gi_wp2
    refine ⟨by simp, .inl ⟨_, _, rfl, run_takeDeferred hK, ?_⟩⟩
    refine ⟨_, results_tmp (t := 2) rfl _ _ _, _, rfl, ⟨vs, ?_, ?_⟩, HI.out.below⟩
    · have := HI.out.row
      rw [hS] at this
      exact owns_lower this (fun g hg => by have := (this.lt g hg).1; omega)
    · have := HI.out.rows
      rw [hS] at this
      exact this
  case body =>
    rintro l pre ⟨⟨yi, s⟩, hy⟩ a' W hl0 _ ⟨tv, rv, vs, hI⟩ ⟨eb, rfl, heb⟩ hlt
    have hok : ZOk s := HSH.out s (List.mem_of_getElem? hy)
    simp only at heb ⊢
    have hebz := block_lt heb
    have hbig := hI.big
    have hlow := hI.low
    -- what the text's box holds
    obtain ⟨cur, hcur⟩ : ∃ cur, topU p.endZ (toldZ pre) = cur := ⟨_, rfl⟩
    have hcl : cur.length ≤ 1099511627776 := by
      rw [← hcur]
      rcases List.eq_nil_or_concat (toldZ pre) with e | ⟨r, q, e⟩
      · rw [e]; exact endZ_le p
      · rw [e, List.concat_eq_append, topU_snoc]; exact stepZ_le _ _
    have hcs : Says W tv cur := by
      have h1 := hI.cur
      have h2 := upZ_last (toldZ pre) p.endZ
      rw [hcur] at h2
      rw [List.getLast?_eq_getElem?] at h1 h2
      rw [hI.rows.len] at h1
      exact (shows_of_owns (hI.rows.own _ _ _ h1 h2).1).2
    obtain ⟨ca, cc, rfl, _⟩ := id hcs
    have hS0 : (fun W' : World => W'.heap[eb]? = some (.cells (zc s).toArray 66 (0, 0)) ∧ W'.cell? ⟨n, 0, none⟩ = some (.slice ca cur.length cc)) W.drew := ⟨heb, by show W.cell? _ = _; rw [cell_of_row _ _ _ _ _ _ hI.tbox]; rfl⟩
    have HI := hid hI
    clear hI
    gi_wp2
    refine last_in_round (fun W' : World => W'.heap[eb]? = some (.cells (zc s).toArray 66 (0, 0)) ∧ W'.cell? ⟨n, 0, none⟩ = some (.slice ca cur.length cc)) 4 (by kernel_rfl) (by kernel_rfl) (by rintro ⟨_, _, h⟩; exact h) ?_
    refine wpAnyE_take (i := 0) (v := .agg (zc s).toArray) rfl (by kernel_rfl) (by kernel_rfl) (by kernel_rfl) (by kernel_rfl) (by kernel_rfl) (fun _ _ _ h => h) (yields_row 66 (.tmp 6) rfl ⟨eb, 0, none⟩ (by kernel_rfl) _ (by rfl) (fun W hW => run_load_z W eb 0 66 (zc s) _ (fun j u hu => by rw [cell_of_row _ _ _ _ _ _ hW.1, Nat.zero_add, List.getElem?_toArray]; exact hu) Tryd.underlying66 rfl (by rw [zc_length hok]; exact Tryd.infoStepZ))) hS0 ?_
    simp only [Act.put, List.getElem_toArray, List.getElem_cons_zero, List.getElem_cons_succ, List.setIfInBounds_toArray, List.set_cons_zero, List.set_cons_succ]
    refine wpAnyE_take (i := 1) (v := ?_) rfl (by kernel_rfl) (by kernel_rfl) (by kernel_rfl) (by kernel_rfl) (by kernel_rfl) (fun _ _ _ h => h) (Or.inl ⟨by rfl, ?_⟩) (by assumption) ?_; rotate_left; (focus (intro w hSw; (try dsimp only at hSw); (try obtain ⟨hSw1, hSw2, hSw3⟩ := hSw); go_simp <;> with_reducible rfl)); (try simp only [Act.put, List.getElem_toArray, List.getElem_cons_zero, List.getElem_cons_succ, List.setIfInBounds_toArray, List.set_cons_zero, List.set_cons_succ])
    have hTW : Tables W.drew := hT.below (HI.out.below.drew) (by have := hT.lt; omega)
    have HRAW := raw_any W.heap.size (.slice ca cur.length cc) cur W.drew (Nat.le_refl _) (hcs.below (below_drewN _ _ 1)) hcl hTW
    refine takeE_call (i := 2) #[.slice ca cur.length cc] (fun u w' => u = .agg (sumV (sha cur)) ∧ Below W.heap.size W w') (by kernel_rfl) rfl rfl rfl (by kernel_rfl) (enters_of Tryd.func33 (by kernel_rfl) rfl) (HRAW.mono fun e w' ⟨h1, h2⟩ => ⟨_, h1, rfl, (below_drewN _ _ 1).trans h2⟩) ?_
    rintro _ W1 ⟨rfl, hb1⟩
    have hz1 := hb1.size
    have hS1 : (fun W' : World => W'.heap[eb]? = some (.cells (zc s).toArray 66 (0, 0)) ∧ W'.cell? ⟨n, 0, none⟩ = some (.slice ca cur.length cc)) W1 := ⟨(hb1.block _ hebz).trans hS0.1, (hb1.cell (p := ⟨n, 0, none⟩) (by show n < _; omega)).trans hS0.2⟩
    refine ⟨hS1, ?_⟩
    simp only [Act.put, List.getElem_toArray, List.getElem_cons_zero, List.getElem_cons_succ, List.setIfInBounds_toArray, List.set_cons_zero, List.set_cons_succ]
    have HFT := pforkText_any s (sha cur) W1 hok (sha_length _)
    refine takeE_call (i := 3) #[.agg (zc s).toArray, .agg (sumV (sha cur))] (fun u w' => w'.ownsRow W1.heap.size 5 1 u (stepZ s (sha cur)).length ((stepZ s (sha cur)).map by8) ∧ Below W1.heap.size W1 w') (by kernel_rfl) rfl rfl rfl (by kernel_rfl) (enters_of Tryd.func47 (by kernel_rfl) rfl) (HFT.mono fun e w' ⟨v', h1, h2, h3⟩ => ⟨_, h1, h2, h3⟩) ?_
    rintro v' W2 ⟨ho2, hb2'⟩
    have hb2 : Below W.heap.size W W2 := hb1.trans (hb2'.mono hz1)
    have hz2' := hb2'.size
    obtain ⟨na, nc, rfl⟩ := row_form ho2
    have hS2 : (fun W' : World => W'.heap[eb]? = some (.cells (zc s).toArray 66 (0, 0)) ∧ W'.cell? ⟨n, 0, none⟩ = some (.slice ca cur.length cc)) W2 := ⟨(hb2.block _ hebz).trans hS0.1, (hb2.cell (p := ⟨n, 0, none⟩) (by show n < _; omega)).trans hS0.2⟩
    refine ⟨hS2, ?_⟩
    simp only [Act.put, List.getElem_toArray, List.getElem_cons_zero, List.getElem_cons_succ, List.setIfInBounds_toArray, List.set_cons_zero, List.set_cons_succ]
    have hfr : W2.frozen? ⟨n, 0, none⟩ = false := by
      have := (hb2.block n (by omega)).trans HI.out.tbox
      simp [World.frozen?, this]
    refine takeE_store (i := 4) (pi := ⟨n, 0, none⟩) (v := .slice na (stepZ s (sha cur)).length nc) Tryd.infoBytesZ (by kernel_rfl) rfl rfl rfl rfl (by kernel_rfl) (by kernel_rfl) rfl rfl hS2.2 hfr (.inr rfl) ?_
    refine wpAnyE_done (by kernel_rfl) ?_ _
    have hml := may_length p hm
    have hul := upZ_length (toldZ pre) p.endZ
    have htl : (toldZ pre).length = pre.length := by simp [toldZ]
    obtain ⟨ra, rc, hrv⟩ := row_form HI.out.row
    have hlowr : ∀ i, rv.ownBlock = some i → n + 1 ≤ i ∧ i < W.heap.size := fun i hi => HI.out.row.lt i hi
    have hrt : ∀ i, rv.ownBlock = some i → i ≠ n + 2 := fun i hi e => by
      obtain ⟨cs, hc⟩ := row_type HI.out.row hi
      rw [e, HI.out.rbox] at hc; cases hc
    have HST := fun (B : Nat) (g cap : Nat) (W5 : World) => tex_step (B := B) (g := g) (cap := cap) (W4 := W5) HI.out ⟨(yi, s), hy⟩ (tx := stepZ s (sha cur)) (by rw [hcur]) hb2 (owns_lower ho2 (fun g hg => by have := (ho2.lt g hg).1; omega)) (stepZ_pos s _ hok (sha_length _)) rfl rfl
    obtain ⟨tx, htx⟩ : ∃ tx, stepZ s (sha cur) = tx := ⟨_, rfl⟩
    rw [htx] at HST ⊢
    obtain ⟨W3, hW3⟩ : ∃ W3, W2.setCell ⟨n, 0, none⟩ (.slice na tx.length nc) = W3 := ⟨_, rfl⟩
    rw [hW3] at HST ⊢
    have hsp3 : Spares (fun i => i = n) W2 W3 := by rw [← hW3]; exact spares_set W2 ⟨n, 0, none⟩ _
    have hrow3 := hsp3.row ((Spares.of_new (S := fun _ => False) hb2).row HI.out.row (fun _ _ => id)) (fun i hi e => by have := (hlowr i hi).1; omega)
    have hz3 : W2.heap.size ≤ W3.heap.size := hsp3.size
    have hrb3 : W3.heap[n + 2]? = some (.cells #[rv] 32 (0, 0)) := (hsp3.block _ (by omega) (by omega)).trans ((hb2.block _ (by omega)).trans HI.out.rbox)
    have htb3 : W3.heap[n]? = some (.cells #[.slice na tx.length nc] 24 (0, 0)) := by
      rw [← hW3]
      exact heap_setCell_same _ _ _ _ _ _ ((hb2.block _ (by omega)).trans HI.out.tbox)
    have q1 : W3.cell? ⟨n, 0, none⟩ = some (.slice na tx.length nc) := by rw [cell_of_row _ _ _ _ _ _ htb3]; rfl
    have q2 : W3.cell? ⟨n + 1 + 1, 0, none⟩ = some rv := by rw [cell_of_row _ _ _ _ _ _ hrb3]; rfl
    have hnA := World.alloc_heap_new W3 (.cells #[.slice na tx.length nc] 24)
    have hbA : Below W3.heap.size W3 (W3.alloc (.cells #[.slice na tx.length nc] 24)) := (Below.refl _ _).alloc (Nat.le_refl _) _
    have hrow4 := ownsRow_below hrow3 hbA
    obtain ⟨i0, hi, hz0, hzz1, hzz2⟩ := info_parts Tryd.infoBytes
    obtain ⟨len, hlen⟩ : ∃ len, (upZ p.endZ (toldZ pre)).length = len := ⟨_, rfl⟩
    rw [hlen] at hrv hrow4 HST hul
    have hlb : len ≤ 1082 := by omega
    clear hul htl hlen hlt
    have HQ : Hid (∀ g cap W5, W5.ownsRow (n + 1) 24 1 (.slice (some ⟨g, 0, none⟩) (len + 1) cap) (len + 1) (vs ++ [.slice na tx.length nc]) → (W3.alloc (.cells #[.slice na tx.length nc] 24)).grownBy W5 rv.ownBlock → (rv.ownBlock = some g ∨ g = (W3.alloc (.cells #[.slice na tx.length nc] 24)).heap.size) →
        W5.cell? ⟨n + 1 + 1, 0, none⟩ = some rv ∧ W5.frozen? ⟨n + 1 + 1, 0, none⟩ = false ∧ ∀ B, _) := hid (fun g cap W5 h1 h2 h3 => by
      have h5 : W5.heap[n + 2]? = some (.cells #[rv] 32 (0, 0)) := (h2.block _ (by have := hbA.size; omega) (fun e => hrt _ e.symm rfl)).trans ((hbA.block _ (by omega)).trans hrb3)
      exact ⟨by rw [cell_of_row _ _ _ _ _ _ h5]; rfl, by simp [World.frozen?, h5], fun B => HST B g cap W5 h2 h1 h3⟩)
    have hnews : ∀ (j : Nat) (u : Value), [Value.slice na tx.length nc][j]? = some u → (W3.alloc (.cells #[.slice na tx.length nc] 24)).cell? ((⟨W3.heap.size, 0, none⟩ : Addr).add j) = some u := by have := World.news_of_block hnA; simpa using this
    have hzA := hbA.size
    subst hrv
    clear HST hS0 hS1 hS2 hfr HFT HRAW hb1 hb2' hb2 ho2 hrow3 hrb3 htb3 hnA hbA hsp3 hW3 heb
    gi_wp2_with (first
      | (gi_at_builtin; go_loud (refine listRound_op rfl (fun c h => by cases h) (wp_append_lies _ (.tmp 23) (.tmp 25) 32 rfl (n + 1) 24 i0 _ 1 24 Tryd.underlying32 hi hz0 hzz1 hzz2 rfl (by decide) (.slice ra len rc) len vs rfl hrow4 ⟨W3.heap.size, 0, none⟩ 1 1 [.slice na tx.length nc] rfl rfl hnews (by intro u hu; simp at hu; subst hu; rfl) (by decide) (by unfold maxLen; omega) (by omega) (by omega) _ rfl ?_))
         intro g cap W5 hown5 hgrow hat hglt
         obtain ⟨r1, r2, r3⟩ := HQ.out g cap W5 hown5 hgrow hat
         have HF := hid r3
         clear r3 hown5 hgrow hat HQ))
    exact ⟨(HF.out _).1, (HF.out 0).2.1, (HF.out 0).2.2⟩
end Go.Proofs.YtmafaioohiaenaaDoor
