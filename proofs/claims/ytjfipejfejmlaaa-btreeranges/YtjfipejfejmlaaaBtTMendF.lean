/- Contract of Tree.mend: the walk. -/
import Derived.Test.YtjfipejfejmlaaaBtTMend
namespace Go.Proofs.Ytjfipejfejmlaaa
open Go.RowKit Go.Shelf
set_option linter.unusedVariables false
set_option linter.unusedSimpArgs false
set_option maxRecDepth 20000
attribute [local go_sem] Oper.semAt_some

/-- Between two rounds. -/
structure MendI (K : Nat → Prop) (w : World) (tb : Nat) (cnt : Int) (tot0 : Nat → Nat) (tns : List (Nat × Nat)) (L : List EntV) (bk : Nat) (aw : Option Addr) (k : Nat) (W : World) : Prop where
  out : ∃ (h : Nat) (c : Ctx h) (pb : Nat) (sv fv : Value) (es : List (Elem h)), Dirt K W tb cnt c pb sv fv es ∧ c.turns = tns.take (tns.length - k) ∧ c.before ++ flatL h es ++ c.after = L ∧ Spares (fun i => 0 < tot0 i) w W ∧ Kept tot0 w (totO c pb sv es)
  kp : ∃ cs1 cs2 : Array Value, W.heap[bk]? = some (.cells cs1 58 (0, 0)) ∧ ∀ ad, aw = some ad → ∃ cs, W.heap[ad.block]? = some (.cells cs 84 (0, 0))

theorem mendI_step {K : Nat → Prop} {w W W' : World} {tb : Nat} {cnt : Int} {tot0 : Nat → Nat} {tns : List (Nat × Nat)} {L : List EntV} {bk : Nat} {aw : Option Addr} {k : Nat} (hI : MendI K w tb cnt tot0 tns L bk aw k W) (hb : Below W.heap.size W W') : MendI K w tb cnt tot0 tns L bk aw k W' := by
  obtain ⟨⟨h, c, pb, sv, fv, es, h1, h2, h3, h4, h5⟩, cs1, cs2, h6, h7⟩ := hI
  refine ⟨⟨h, c, pb, sv, fv, es, h1.new hb, h2, h3, h4.andThen (Spares.of_new (S := fun _ => False) hb) (fun i hi => hi.elim), h5⟩, cs1, cs2, (hb.block _ (block_lt h6)).trans h6, fun ad e => ?_⟩
  obtain ⟨cs, hc⟩ := h7 ad e
  exact ⟨cs, (hb.block _ (block_lt hc)).trans hc⟩

theorem mendI_own {K : Nat → Prop} {w : World} {tb : Nat} {cnt : Int} {tot0 : Nat → Nat} {tns : List (Nat × Nat)} {L : List EntV} {bk : Nat} {aw : Option Addr} {B : Nat} (hK : ∀ i, K i → i < B) (hB : w.heap.size ≤ B) : OwnFrom B (fun k W => MendI K w tb cnt tot0 tns L bk aw k W) := fun k W W' row hs hg hr => by
  obtain ⟨⟨h, c, pb, sv, fv, es, h1, h2, h3, h4, h5⟩, cs1, cs2, h6, h7⟩ := hs
  have hno : ∀ i cs t fr, W.heap[i]? = some (.cells cs t fr) → some i ≠ row := fun i cs t fr hc e => by
    obtain ⟨_, o, ho, hcs⟩ := hr i e.symm
    rw [hc] at ho
    cases ho
    cases hcs
  refine ⟨⟨h, c, pb, sv, fv, es, h1.own hK hg hr, h2, h3, spares_own hB () W W' row h4 hg hr, h5⟩, cs1, cs2, (hg.block _ (block_lt h6) (hno _ _ _ _ h6)).trans h6, fun ad e => ?_⟩
  obtain ⟨cs, hc⟩ := h7 ad e
  exact ⟨cs, (hg.block _ (block_lt hc) (hno _ _ _ _ hc)).trans hc⟩

/-- What a round does. -/
theorem mendI_round {K : Nat → Prop} {w W : World} {tb : Nat} {cnt : Int} {tot0 : Nat → Nat} {tns : List (Nat × Nat)} {L : List EntV} {bk : Nat} {aw : Option Addr} {k : Nat} {x : Nat × (Nat × Nat)} (hI : MendI K w tb cnt tot0 tns L bk aw k W) (hx : (enumB tns)[k]? = some x) :
    Calls Try.prog 48 #[.pointer (some ⟨x.2.1, 0, none⟩), .int .i64 (x.2.2 : Int)] W fun e W' => (∃ v, e = .returned v) ∧ MendI K w tb cnt tot0 tns L bk aw (k + 1) W' ∧ KpA bk aw W W' ∧ ∃ S : Nat → Prop, Spares S W W' ∧ ∀ i, S i → ∃ cs t fr, W.heap[i]? = some (.cells cs t fr) := by
  obtain ⟨⟨h, c, pb, sv, fv, es, h1, h2, h3, h4, h5⟩, cs1, cs2, h6, h7⟩ := hI
  have hkl : k < tns.length := by
    have := (List.getElem?_eq_some_iff.1 hx).1
    rwa [enumB_length] at this
  rw [enumB_at tns k hkl] at hx
  have hx' := (Option.some.inj hx).symm
  subst hx'
  have hm : tns.length - k = tns.length - 1 - k + 1 := by omega
  rw [hm, List.take_add_one, List.getElem?_eq_getElem (by omega)] at h2
  cases c with
  | top =>
    have := congrArg List.length h2
    simp [Ctx.turns] at this
    omega
  | down qb qsv qfv pre post up =>
    simp only [Ctx.turns, Option.toList_some] at h2
    have h2' := List.append_inj' h2 rfl
    have hturn : (qb, pre.length) = tns[tns.length - 1 - k] := by simpa using h2'.2
    dsimp only
    rw [← hturn]
    obtain ⟨c1, c2, c3, c4, c5⟩ := h1.ctx
    obtain ⟨o1, o2, o3, o4, o5⟩ := h1.ok
    have hone := h1.one qb
    simp only [totO, Ctx.occ, if_true] at hone
    have hpl : (pre ++ (⟨pb, sv, fv, es⟩ : Pg h) :: post).length = pre.length + (post.length + 1) := by simp
    have hM := pmend_any h K W qb pre.length qsv qfv (pre ++ (⟨pb, sv, fv, es⟩ : Pg h) :: post) ⟨pb, sv, fv, es⟩ c1 (by rw [hpl]; simpa [ptr] using c2)
      (fun q hq => by
        rcases List.mem_append.1 hq with hq | hq
        · exact (c3 q hq).half
        · rcases List.mem_cons.1 hq with rfl | hq
          · exact ⟨h1.at', h1.lies⟩
          · exact (c4 q hq).half)
      (by simp)
      (fun q hq => by
        rcases List.mem_append.1 hq with hq | hq
        · have := (okE_pg.1 (o3 q hq)).2.1; omega
        · rcases List.mem_cons.1 hq with rfl | hq
          · have := h1.most; show es.length ≤ 1000; omega
          · have := (okE_pg.1 (o4 q hq)).2.1; omega)
      (by omega) (fun _ => by omega)
      (fun q hq e he i hi heq => by
        subst heq
        have hh : occ h e i ≤ occL (h + 1) (pre ++ (⟨pb, sv, fv, es⟩ : Pg h) :: post) i := by
          have := occ_mem he i
          have h8 : occL h q.es i ≤ occ (h + 1) q i := by rw [occ_pg]; omega
          have := occ_mem (h := h + 1) hq i
          omega
        rw [occL_append, occL_cons, occ_pg] at hh
        dsimp only at hh
        omega)
      (fun hK => by
        have := (h1.kfree qb hK).1
        simp only [totO, Ctx.occ, if_true] at this
        omega)
    refine hM.mono ?_
    rintro e W' ⟨hv, hmd⟩
    obtain ⟨sv', kids', d1, d2, d3, d4⟩ := dirt_step h1 hmd
    have hqpos : 0 < totO (.down qb qsv qfv pre post up) pb sv es qb := by simp only [totO, Ctx.occ, if_true]; omega
    have hbkq : bk ≠ qb := fun e => by rw [e, c1] at h6; cases h6
    have hawq : ∀ ad, aw = some ad → ad.block ≠ qb := fun ad e e' => by
      obtain ⟨cs, hc⟩ := h7 ad e
      rw [e', c1] at hc
      cases hc
    refine ⟨hv, ⟨⟨h + 1, up, qb, sv', qfv, kids', d1, ?_, ?_, ?_, ?_⟩, cs1, cs2, (d3.block _ (block_lt h6) hbkq).trans h6, fun ad e => ?_⟩, ⟨d3.block _ (block_lt h6) hbkq, fun ad e => ?_⟩, fun i => i = qb, d3, fun i hi => by have e : i = qb := hi; subst e; exact ⟨_, _, _, c1⟩⟩
    · rw [show tns.length - (k + 1) = tns.length - 1 - k by omega]
      exact h2'.1
    · rw [d2, ← h3]
      simp [Ctx.before, Ctx.after]
    · refine h4.andThen d3 (fun i hi => ?_)
      by_cases hlt : i < w.heap.size
      · left
        have := h5 i hlt
        rw [hi] at this ⊢
        omega
      · exact .inr (by omega)
    · intro i hi
      have := h5 i hi
      have := d4 i (by have := h4.size; omega)
      omega
    · obtain ⟨cs, hc⟩ := h7 ad e
      exact ⟨cs, (d3.block _ (block_lt hc) (hawq ad e)).trans hc⟩
    · obtain ⟨cs, hc⟩ := h7 ad e
      exact d3.block _ (block_lt hc) (hawq ad e)

set_option maxHeartbeats 8000000 in
theorem tmend_any (K : Nat → Prop) (w : World) (tb : Nat) (cnt : Int) (c0 : Ctx 0) (pb0 : Nat) (sv0 fv0 : Value) (es0 : List (Elem 0)) (wv : Value) (hd : Dirt K w tb cnt c0 pb0 sv0 fv0 es0) (hw : w.ownsRow 0 84 2 wv c0.turns.length (turnC c0.turns)) (hlen : c0.turns.length < 1000) :
    Calls Try.prog 30 #[.pointer (some ⟨tb, 0, none⟩), wv] w fun e w' => (∃ v, e = .returned v) ∧ ∃ (H : Nat) (T : Pg H), TreeM K w' tb cnt T ∧ OkR H T ∧ flat (H + 1) T = c0.before ++ flatL 0 es0 ++ c0.after ∧ Spares (fun i => 0 < totO c0 pb0 sv0 es0 i ∨ i = tb) w w' ∧ Kept (totO c0 pb0 sv0 es0) w (occ (H + 1) T) := by
  obtain ⟨aw, cw, rfl⟩ := row_slice hw
  have hrw := rw_of_owns hw (by
    intro u hu
    simp only [turnC, List.mem_flatMap] at hu
    obtain ⟨x, _, hu⟩ := hu
    simp only [List.mem_cons, List.not_mem_nil, or_false] at hu
    rcases hu with rfl | rfl <;> rfl)
  have HD := hid hd
  have HRW := hid hrw
  have hty : ∀ ad, aw = some ad → ∃ cs, w.heap[ad.block]? = some (.cells cs 84 (0, 0)) := fun ad e => by
    rcases hw.2 with ⟨e1, _⟩ | ⟨g, cap, cur, e1, _, hg, _⟩
    · rw [e] at e1; cases e1
    · rw [e] at e1; cases e1; exact ⟨cur, hg⟩
  have HTY := hid hty
  clear hd hrw hty hw
  refine (callsIn_wide (n := 3)).1 ?_
  refine callsIn_of_wp_marks Try.func30 rfl trivial ?_ rfl
  simp only [Try.ntmps30, List.size_toArray, List.length_cons, List.length_nil, Nat.reduceAdd, Nat.reduceSub, Array.replicate_succ, Array.replicate_zero, List.push_toArray, List.append_toArray, List.nil_append, List.cons_append]
  gi_wp2_with (refine ⟨trivial, ?_⟩; gi_at_call 47; refine (callsIn_wide.2 (backT_any _ _ _ _)).mono ?_; rintro e w4 ⟨rfl, rfl⟩)
  have hbn := new_alloc w (.cells #[.slice aw c0.turns.length cw] 58)
  have hnew := World.alloc_heap_new w (.cells #[.slice aw c0.turns.length cw] 58)
  have hz4 : (w.alloc (.cells #[.slice aw c0.turns.length cw] 58)).heap.size = w.heap.size + 1 := World.size_alloc _ _
  generalize w.alloc (.cells #[.slice aw c0.turns.length cw] 58) = w4 at *
  have h0 : MendI K w tb cnt (totO c0 pb0 sv0 es0) c0.turns (c0.before ++ flatL 0 es0 ++ c0.after) w.heap.size aw 0 w4 :=
    ⟨⟨0, c0, pb0, sv0, fv0, es0, HD.out.new hbn, by rw [Nat.sub_zero, List.take_length], rfl, Spares.of_new hbn, fun i _ => Nat.le_refl _⟩, _, #[], hnew, fun ad e => by
      obtain ⟨cs, hc⟩ := HTY.out ad e
      exact ⟨cs, (hbn.block _ (block_lt hc)).trans hc⟩⟩
  have hKB : ∀ i, K i → i < w4.heap.size := fun i hi => by have := (HD.out.kfree i hi).2.2; omega
  refine range_tells (by omega) (gf := 57) (lb := #[.pointer (some ⟨w.heap.size, 0, none⟩)]) rfl (enters_of Try.func57 (by kernel_rfl) rfl)
    (backT_tells _ w.heap.size aw cw c0.turns w4 hnew (HRW.out.new hbn)) kpA_t (fun W l o o' hl hW ho => ⟨World.putObj_heap_other (by omega), fun ad e => World.putObj_heap_other (by obtain ⟨cs, hc⟩ := HTY.out ad e; have := block_lt hc; omega)⟩) (fun _ => rfl)
    (fun k W => MendI K w tb cnt (totO c0 pb0 sv0 es0) c0.turns (c0.before ++ flatL 0 es0 ++ c0.after) w.heap.size aw k W) (fun _ _ _ => False) (mendI_own hKB (by omega)) (fun _ _ _ _ _ hs _ _ => hs) h0
    (fun x a' W => ∃ eb, a' = { tmps := #[.pointer (some ⟨tb, 0, none⟩), .slice aw c0.turns.length cw, undef, undef, undef, .pointer (some ⟨eb, 0, none⟩), .slice aw c0.turns.length cw, .func (.func 57) #[] #[.pointer (some ⟨w.heap.size, 0, none⟩)], .int .i64 (x.1 : Int), .agg #[.pointer (some ⟨x.2.1, 0, none⟩), .int .i64 (x.2.2 : Int)], undef, undef, undef, undef, undef, undef, undef, undef, undef, undef, undef, undef, undef, undef, undef, undef, undef, undef, undef, undef, undef, undef, undef, undef, undef, undef, undef, undef, undef, undef, undef, undef, undef, undef, undef, undef], defers := [] } ∧ W.heap[eb]? = some (.cells #[.pointer (some ⟨x.2.1, 0, none⟩), .int .i64 (x.2.2 : Int)] 84 (0, 0)))
    (fun x a' s W W' row hs hg hr => by
      obtain ⟨eb, h1, h2⟩ := hs
      exact ⟨eb, h1, cells_own () W W' row h2 hg hr⟩) ?assign ?body ?done ?stop
  case stop => exact fun D c k W _ _ h _ => h.elim
  case assign =>
    intro l m k x W K' hx hI hK
    obtain ⟨xi, xb, xa⟩ := x
    dsimp only
    have hnew := World.alloc_heap_new W (.cells #[.pointer none, .int .i64 0] 84)
    have q0 : (W.alloc (.cells #[.pointer none, .int .i64 0] 84)).cell? ⟨W.heap.size, 0, none⟩ = some (.pointer none) := by rw [cell_of_row _ _ _ _ _ _ hnew]; rfl
    have q1 : (W.alloc (.cells #[.pointer none, .int .i64 0] 84)).cell? ⟨W.heap.size, 1, none⟩ = some (.int .i64 0) := by rw [cell_of_row _ _ _ _ _ _ hnew]; rfl
    have hbN : Below W.heap.size W (W.alloc (.cells #[.pointer (some ⟨xb, 0, none⟩), .int .i64 (xa : Int)] 84)) := (Below.refl _ _).alloc (Nat.le_refl _) _
    have HKP : Hid (KpA w.heap.size aw W (W.alloc (.cells #[.pointer (some ⟨xb, 0, none⟩), .int .i64 (xa : Int)] 84))) := hid (by
      obtain ⟨_, cs1, cs2, h6, h7⟩ := hI
      exact ⟨hbN.block _ (block_lt h6), fun ad e => by obtain ⟨cs, hc⟩ := h7 ad e; exact hbN.block _ (block_lt hc)⟩)
    have HI := hid hI
    have HK := hid hK
    clear hI hK
    gi_wp2
    exact HK.out _ _ (keepsFrom_of (S := fun _ => False) (Spares.of_new hbN) (fun i h => h.elim)) HKP.out (mendI_step HI.out hbN) ⟨W.heap.size, rfl, World.alloc_heap_new _ _⟩
  case body =>
    rintro l m k x a' W hl hx hI ⟨eb, rfl, heb⟩
    have HR := hid (mendI_round hI hx)
    obtain ⟨xi, xb, xa⟩ := x
    dsimp only at heb HR ⊢
    have q0 : W.cell? ⟨eb, 0, none⟩ = some (.pointer (some ⟨xb, 0, none⟩)) := by rw [cell_of_row _ _ _ _ _ _ heb]; rfl
    have q1 : W.cell? ⟨eb, 1, none⟩ = some (.int .i64 (xa : Int)) := by rw [cell_of_row _ _ _ _ _ _ heb]; rfl
    clear hI hx heb
    gi_wp2_with (refine ⟨trivial, fun h => (by cases h), ?_⟩; gi_at_call 48; refine (callsIn_round HR.out).mono ?_; rintro e W' ⟨⟨v, rfl⟩, hI', hkp, S, hsp, hS⟩)
    exact ⟨keepsFrom_of hsp hS, hkp, hI'⟩
  case done =>
    rintro D W hD hI hK
    rw [enumB_length] at hI
    obtain ⟨⟨h, c, pb, sv, fv, es, h1, h2, h3, h4, h5⟩, _⟩ := hI
    rw [Nat.sub_self, List.take_zero] at h2
    have hc := ctx_top h2
    subst hc
    have htr : W.cell? ⟨tb, 0, none⟩ = some (.pointer (some ⟨pb, 0, none⟩)) := by rw [cell_of_row _ _ _ _ _ _ h1.tree]; rfl
    have H1 := hid h1
    have H3 := hid h3
    have H4 := hid h4
    have H5 := hid h5
    have hzW := h4.size
    have hbA := new_alloc W (.cells #[.pointer (some ⟨pb, 0, none⟩)] 53)
    have hzA : (W.alloc (.cells #[.pointer (some ⟨pb, 0, none⟩)] 53)).heap.size = W.heap.size + 1 := World.size_alloc _ _
    have HSH := share_any h K (.slice (some ⟨W.heap.size, 0, none⟩) 1 1) [⟨pb, sv, fv, es⟩] (W.alloc (.cells #[.pointer (some ⟨pb, 0, none⟩)] 53))
      (rw_of_owns (owns_new (B := 0) W [.pointer (some ⟨pb, 0, none⟩)] (Nat.zero_le _) (by unfold maxLen; simp)) (by intro u hu; rw [List.mem_singleton.1 hu]; rfl))
      (fun q hq => by rw [List.mem_singleton.1 hq]; exact ⟨h1.at'.new hbA, fun e he => (h1.lies e he).new hbA⟩) (fun q hq => by rw [List.mem_singleton.1 hq]; have := h1.most; show es.length ≤ 1000; omega) (by simp)
    have hal : allEs [(⟨pb, sv, fv, es⟩ : Pg h)] = es := by rw [allEs_cons, allEs_nil, List.append_nil]
    rw [hal] at HSH
    have htlt := block_lt h1.tree
    have HWT : Hid (Waits W [D]) := hid ((waits_nil W).cons hK (fun E hE => (by cases hE)))
    clear h1 h2 h3 h4 h5 hK hal
    gi_wp2_with (refine ⟨trivial, ?_⟩; first
      | (gi_at_call 49; refine (callsIn_wide.2 HSH).mono ?_; clear HSH; rintro e w6 ⟨rv, qs, rfl, ho6, hq6, hf6, hb6⟩
         have hbW6 : Below W.heap.size W w6 := hbA.trans (hb6.mono (by omega))
         have hF6 : Fresh h K W w6 (occL h es) qs := ⟨hf6.lies, fun i hi => hf6.low i (by omega), fun i hi => by
           by_cases hi2 : (W.alloc (.cells #[.pointer (some ⟨pb, 0, none⟩)] 53)).heap.size ≤ i
           · exact hf6.high i hi2
           · have h7 := hf6.low i (by omega)
             rcases Nat.eq_zero_or_pos (occL h es i) with h8 | h8
             · omega
             · have := liesL_lt H1.out.lies i h8; omega⟩
         have hrv : Rw w6 1 rv qs.length (rowC (h + 1) qs) := by
           rw [rowC_pg]
           exact rw_of_owns ho6 (by intro u hu; obtain ⟨q, _, rfl⟩ := List.mem_map.1 hu; rfl)
         have hql : qs.length ≤ 2 := by
           have := congrArg List.length hq6
           rw [List.length_map] at this
           rcases shareL_two es with e | e <;> omega
         have HNP := newPage_first nilS rv 0 qs.length [] (rowC (h + 1) qs) w6 (rw_nil _ _) hrv (by omega) (by omega) (heads_of (h := h + 1) (L := qs) hf6.lies)
         have HQ6 := hid hq6
         have HF6 := hid hF6
         have HB6 := hid hbW6
         clear ho6 hq6 hf6 hb6 hF6 hbW6 hrv)
      | (gi_at_call 23; refine (callsIn_wide.2 HNP).mono ?_; clear HNP; rintro e w7 ⟨R, se, sp, fR, rfl, hpag, hfi, hne, hnp, hb7⟩
         obtain ⟨sR, hRl, hRr, _⟩ := page_lies (h := h + 1) (L := qs) hpag (fvL_of (h := h + 1) (L := qs) HF6.out.lies hfi) (fun e he => (HF6.out.lies e he).new hb7) (fun _ => by first | exact hne rfl | exact hne trivial | simpa using hne) (fun h => by omega)
         have HRT := hid (root_new H1.out HQ6.out HF6.out HB6.out hb7 hRl hRr hpag.low)
         have hbW7 : Below W.heap.size W w7 := HB6.out.trans (hb7.mono HB6.out.size)
         have ht7 := (hbW7.block _ htlt).trans H1.out.tree
         have c7 : w7.cell? ⟨tb, 0, none⟩ = some (.pointer (some ⟨pb, 0, none⟩)) := by rw [cell_of_row _ _ _ _ _ _ ht7]; rfl
         have f7 : w7.frozen? ⟨tb, 0, none⟩ = false := by simp [World.frozen?, ht7]
         have HWT7 := hid (HWT.out.new hbW7)
         have HT7 := hid ht7
         clear hpag hfi hne hnp hb7 hRl hRr ht7 hbW7))
    have HW8 : Hid (Waits (w7.setCell ⟨tb, 0, none⟩ (.pointer (some ⟨R, 0, none⟩))) [D]) := hid (HWT7.out.spares (spares_set w7 ⟨tb, 0, none⟩ _) (fun i hi => by have e : i = tb := hi; subst e; exact ⟨_, _, _, HT7.out⟩))
    have HRT' := HRT.out
    simp only [ptr] at HRT'
    obtain ⟨r1, r2, ⟨j0, hj0, r3⟩, r4, r5⟩ := HRT'
    have HS8 : Hid (Spares (fun i => 0 < totO c0 pb0 sv0 es0 i ∨ i = tb) w (w7.setCell ⟨tb, 0, none⟩ (.pointer (some ⟨R, 0, none⟩)))) := hid ((H4.out.mono fun i hi => .inl hi).andThen r4 (fun i hi => .inl (.inr hi)))
    have HK8 : Hid (Kept (totO c0 pb0 sv0 es0) w (occ (h + 2) (⟨R, sR, fR, qs⟩ : Pg (h + 1)))) := hid (fun i hi => Nat.le_trans (r5 i (by omega)) (H5.out i hi))
    have HF8 : Hid (flat (h + 2) (⟨R, sR, fR, qs⟩ : Pg (h + 1)) = c0.before ++ flatL 0 es0 ++ c0.after) := hid (by rw [r2, ← H3.out]; simp [Ctx.before, Ctx.after])
    have HM8 := hid r1
    have HJ8 := hid r3
    clear r1 r2 r3 r4 r5 HRT c7 f7
    generalize w7.setCell ⟨tb, 0, none⟩ (.pointer (some ⟨R, 0, none⟩)) = w8 at *
    gi_loopg [] 2 (fun kx wr => ∃ (H' : Nat) (T' : Pg H') (j : Nat), j ≤ kx ∧ Hid (Thin j H' T') ∧ Hid (TreeM K wr tb cnt T') ∧ Hid (flat (H' + 1) T' = c0.before ++ flatL 0 es0 ++ c0.after) ∧ Hid (Spares (fun i => 0 < totO c0 pb0 sv0 es0 i ∨ i = tb) w wr) ∧ Hid (Kept (totO c0 pb0 sv0 es0) w (occ (H' + 1) T')) ∧ Hid (Waits wr [D]))
    case atStart => exact ⟨h + 1, ⟨R, sR, fR, qs⟩, j0, hj0, HJ8, HM8, HF8, HS8, HK8, HW8⟩
    case round =>
      obtain ⟨H', T', j, hj, HJ, HM, HF, HS, HKp, HW⟩ := hrel
      have t0 : wr.cell? ⟨tb, 0, none⟩ = some (.pointer (some ⟨T'.pb, 0, none⟩)) := by rw [cell_of_row _ _ _ _ _ _ HM.out.tree]; rfl
      have tf : wr.frozen? ⟨tb, 0, none⟩ = false := by simp [World.frozen?, HM.out.tree]
      have hat := (lies_pg.1 HM.out.lies).1
      cases j with
      | zero =>
        have hfin : Hid (OkR H' T') := hid HJ.out
        obtain ⟨sl, lv, cv, hc1, hlv, hlv2⟩ : ∃ sl lv cv, wr.cell? ⟨T'.pb, 1, none⟩ = some (.slice sl lv cv) ∧ ¬ ((lv : Int) = 1) ∧ lv < 1000 := by
          cases H' with
          | zero => exact ⟨none, 0, 0, by rw [cell_of_row _ _ _ _ _ _ hat.blk]; rfl, by simp, by omega⟩
          | succ H' =>
            obtain ⟨a9, c9, e9⟩ := row_slice hat.row
            have hk := okE_pg.1 (show OkE (H' + 2) T' from HJ.out)
            exact ⟨a9, T'.es.length, c9, by rw [cell_of_row _ _ _ _ _ _ hat.blk, e9]; rfl, by omega, by omega⟩
        have hlv3 : decide ((lv : Int) = 1) = false := by simpa using hlv
        have hlv4 : ((lv : Int) == 1) = false := by simpa using hlv
        generalize hpb9 : T'.pb = pb9 at *
        gi_wp2
        refine leaves_marks [D] _ HW.out fun w'' hs hz2 => ⟨_, results_none rfl _ _ _, ⟨_, rfl⟩, H', T', ?_, hfin.out, HF.out, ?_, HKp.out⟩
        · have hnD : ∀ i, (∃ cs t fr, wr.heap[i]? = some (.cells cs t fr)) → ¬ i ∈ [D] := fun i ⟨cs, t, fr, hc⟩ hm => by
            rw [HW.out.2 i hm] at hc
            cases hc
          exact ⟨(hs.block _ (block_lt HM.out.tree) (hnD _ ⟨_, _, _, HM.out.tree⟩)).trans HM.out.tree, HM.out.lies.keep hs (fun i hi => hnD i (HM.out.lies.cells i hi)) (fun i hi hm => by
            have h1 := (HD.out.kfree i hi).2.2
            rw [List.mem_singleton.1 hm] at h1
            omega), HM.out.one, fun i hi => ⟨(HM.out.kfree i hi).1, (HM.out.kfree i hi).2.1, by rw [hz2]; exact (HM.out.kfree i hi).2.2⟩⟩
        · exact HS.out.andThen hs (fun i hi => .inr (by rw [List.mem_singleton.1 hi]; omega))
      | succ j =>
        cases H' with
        | zero => exact absurd HJ.out (fun h => h)
        | succ H' =>
          obtain ⟨q, hq, hth⟩ := HJ.out
          obtain ⟨a9, c9, e9⟩ := row_slice hat.row
          have hl1 : T'.es.length = 1 := by rw [show T'.es = [q] from hq]; rfl
          have hrw9 := rw_of_owns hat.row (by rw [rowC_pg]; intro u hu; obtain ⟨x, _, rfl⟩ := List.mem_map.1 hu; rfl)
          rw [e9, hl1] at hrw9
          obtain ⟨b9, o9, rfl, c90⟩ := hrw9.one 0 (ptr q.pb) (by rw [rowC_pg, show (T'.es : List (Pg H')) = [q] from hq]; rfl)
          rw [Nat.add_zero] at c90
          simp only [ptr] at c90
          have hc1 : wr.cell? ⟨T'.pb, 1, none⟩ = some (.slice (some ⟨b9, o9, none⟩) 1 c9) := by rw [cell_of_row _ _ _ _ _ _ hat.blk, e9, hl1]; rfl
          obtain ⟨d1, d2, d3, d4⟩ := HM.out.down hq
          simp only [ptr] at d1 d4
          have HW9 : Hid (Waits (wr.setCell ⟨tb, 0, none⟩ (.pointer (some ⟨q.pb, 0, none⟩))) [D]) := hid (HW.out.spares d4 (fun i hi => by have e : i = tb := hi; subst e; exact ⟨_, _, _, HM.out.tree⟩))
          have HS9 : Hid (Spares (fun i => 0 < totO c0 pb0 sv0 es0 i ∨ i = tb) w (wr.setCell ⟨tb, 0, none⟩ (.pointer (some ⟨q.pb, 0, none⟩)))) := hid (HS.out.andThen d4 (fun i hi => .inl (.inr hi)))
          have HD1 := hid d1
          have HD2 := hid d2
          have HD3 := hid d3
          have HTH := hid hth
          have HFq : Hid (flat (H' + 1) q = c0.before ++ flatL 0 es0 ++ c0.after) := hid (d2.trans HF.out)
          have HKq : Hid (Kept (totO c0 pb0 sv0 es0) w (occ (H' + 1) q)) := hid (fun i hi => Nat.le_trans (d3 i) (HKp.out i hi))
          generalize hpb9 : T'.pb = pb9 at *
          clear d1 d2 d3 d4 hth hq hrw9 hl1 e9 hat
          gi_wp2
          gi_roundg j
          case measure => omega
          case rel => exact ⟨H', q, j, Nat.le_refl _, HTH, HD1, HFq, HS9, HKq, HW9⟩
end Go.Proofs.Ytjfipejfejmlaaa
