/- Contracts of must, choose, end. -/
import Derived.Test.YtokfphfgcjbpkaaGreatDoorPRead
namespace Go.Proofs.YtokfphfgcjbpkaaGreatDoor
open Go.RowKit Go.Shelf
set_option linter.unusedVariables false
set_option linter.unusedSimpArgs false
set_option maxRecDepth 20000

/-- A row of texts that lies beyond the reader. -/
def StrsG (g : Nat) (w : World) (v : Value) (ts : List (List UInt8)) : Prop :=
  ∃ a c, v = .slice a ts.length c ∧ ts.length ≤ 1000 ∧ (ts ≠ [] → ∃ b, a = some ⟨b, 0, none⟩ ∧ g < b ∧ ∀ j t, ts[j]? = some t → w.cell? ⟨b, j, none⟩ = some (.string (str8 t)))

theorem StrsG.keeps {g : Nat} {R : Nat → Prop} {w w' : World} {v : Value} {ts : List (List UInt8)} (h : StrsG g w v ts) (hk : Spares R w w') (hR : ∀ i, g < i → ¬ R i) : StrsG g w' v ts := by
  obtain ⟨a, c, h1, h2, h3⟩ := h
  refine ⟨a, c, h1, h2, fun hne => ?_⟩
  obtain ⟨b, ha, hb, hc⟩ := h3 hne
  exact ⟨b, ha, hb, fun j t ht => hk.cell (hc j t ht) (hR b hb)⟩

theorem musts_cons (t : List UInt8) (l : List (List UInt8)) (r : Rd) : mustsP (t :: l) r = mustsP l (if isR t r = true then nextR r else failR 4 r) := by
  show mustsP l (mustP t r).2 = _
  unfold mustP ifP
  split <;> rfl

set_option maxHeartbeats 1000000 in
theorem must_any (F g : Nat) (r : Rd) (w : World) (h : RdAt F w g r) (v : Value) (ts : List (List UInt8)) (hv : StrsG g w v ts) :
    Calls Tryz.prog 50 #[.pointer (some ⟨g, 0, none⟩), v] w fun e w' => e = .returned (.tuple #[]) ∧ RdAt F w' g (mustsP ts r).2 ∧ Fr g w w' := by
  have HV := hid hv
  have HH := hid h
  obtain ⟨a, c, rfl, hlen, _⟩ := hv
  obtain ⟨X, hX⟩ : ∃ X, (mustsP ts r).2 = X := ⟨_, rfl⟩
  rw [hX]
  have HX := hid hX
  clear hX h
  go_enter Tryz.func50, Tryz.ntmps50
  go_wp2_with fail
  go_loopw [5, 8] (fun _ i wr => ∃ (k : Nat) (q : Rd), k ≤ ts.length ∧ i = .int .i64 k ∧ RdAt F wr g q ∧ Fr g w wr ∧ Hid ((mustsP (ts.drop k) q).2 = X)) (fun _ i _ => ts.length - (intOf i).toNat)
  case atStart => exact ⟨0, r, Nat.zero_le _, rfl, HH.out, Spares.refl _ _, hid (by rw [List.drop_zero]; exact HX.out)⟩
  case round =>
    obtain ⟨k, q, hk, rfl, hq, hf, HE⟩ := hrel
    by_cases hlt : k < ts.length
    · obtain ⟨t, ht⟩ : ∃ t, ts[k]? = some t := ⟨_, List.getElem?_eq_getElem hlt⟩
      have hd : ts.drop k = t :: ts.drop (k + 1) := by
        obtain ⟨h1, h2⟩ := List.getElem?_eq_some_iff.1 ht
        rw [List.drop_eq_getElem_cons h1, h2]
      have hlt' : ((k : Int) < (ts.length : Int)) := by omega
      obtain ⟨a', c', hvv, _, h3⟩ := HV.out.keeps hf (fun i hi e => by omega)
      simp only [Value.slice.injEq] at hvv
      obtain ⟨rfl, _, rfl⟩ := hvv
      obtain ⟨b, rfl, hgb, hcell⟩ := h3 (fun e => by rw [e] at hlt; simp at hlt)
      have hc := hcell k t ht
      clear hcell h3
      rw [hd, musts_cons] at HE
      have HQ := hid hq
      have HF := hid hf
      cases hi : isR t q with
      | true =>
        rw [if_pos hi] at HE
        have HS := hid (skip_yes F g q wr hq t hi)
        clear hq hf hd ht hi
        go_wp2_with fail
        refine HS.out.mono ?_
        rintro e w1 ⟨rfl, hr1, hf1⟩
        have HR1 := hid hr1
        have HF1 := hid (HF.out.then hf1)
        clear hr1 hf1 HS
        go_wp2
        go_roundw
        case rel => exact ⟨k + 1, nextR q, by omega, by go_num, HR1.out, HF1.out, HE⟩
        case measure => simp [intOf]; omega
      | false =>
        rw [if_neg (by rw [hi]; exact Bool.false_ne_true)] at HE
        have HS := hid (skip_no F g q wr hq t hi)
        clear hq hf hd ht hi
        go_wp2_with fail
        refine HS.out.mono ?_
        rintro e w1 ⟨rfl, hr1, hf1⟩
        have HR1 := hid (fail_any F g q w1 hr1 4 (by decide))
        have HF1 := hid (HF.out.then hf1)
        clear hr1 hf1 HS
        go_wp2_with fail
        refine HR1.out.mono ?_
        rintro e w2 ⟨rfl, hr2, hf2⟩
        have HR2 := hid hr2
        have HF2 := hid (HF1.out.then hf2)
        clear hr2 hf2 HR1
        go_wp2
        go_roundw
        case rel => exact ⟨k + 1, failR 4 q, by omega, by go_num, HR2.out, HF2.out, HE⟩
        case measure => simp [intOf]; omega
    · have hlt' : ¬ ((k : Int) < (ts.length : Int)) := by omega
      have HE2 : Hid (q = X) := hid (by have := HE.out; rw [List.drop_of_length_le (by omega)] at this; exact this)
      have HQ := hid hq
      have HF := hid hf
      clear HE hq hf
      go_wp2
      exact bodyPost_end (v := .tuple #[]) (by simp [results, Tryz.results50, go_sem]) rfl ⟨rfl, by rw [← HE2.out]; exact HQ.out, HF.out⟩

/-- A row of choices that lies beyond the reader. -/
def ChsG (g : Nat) (w : World) (v : Value) (l : List (List UInt8 × Int)) : Prop :=
  ∃ a c, v = .slice a l.length c ∧ l.length ≤ 1000 ∧ (l ≠ [] → ∃ b, a = some ⟨b, 0, none⟩ ∧ g < b ∧ ∀ j t, l[j]? = some t → w.cell? ⟨b, j * 2, none⟩ = some (.string (str8 t.1)) ∧ w.cell? ⟨b, j * 2 + 1, none⟩ = some (.int .i64 t.2))

theorem ChsG.keeps {g : Nat} {R : Nat → Prop} {w w' : World} {v : Value} {l : List (List UInt8 × Int)} (h : ChsG g w v l) (hk : Spares R w w') (hR : ∀ i, g < i → ¬ R i) : ChsG g w' v l := by
  obtain ⟨a, c, h1, h2, h3⟩ := h
  refine ⟨a, c, h1, h2, fun hne => ?_⟩
  obtain ⟨b, ha, hb, hc⟩ := h3 hne
  exact ⟨b, ha, hb, fun j t ht => ⟨hk.cell (hc j t ht).1 (hR b hb), hk.cell (hc j t ht).2 (hR b hb)⟩⟩

theorem choose_cons (t : List UInt8 × Int) (l : List (List UInt8 × Int)) (r : Rd) : chooseP (t :: l) r = if isR t.1 r = true then (t.2, nextR r) else chooseP l r := rfl

set_option maxHeartbeats 1000000 in
theorem choose_any (F g : Nat) (r : Rd) (w : World) (h : RdAt F w g r) (v : Value) (l : List (List UInt8 × Int)) (hv : ChsG g w v l) :
    Calls Tryz.prog 48 #[.pointer (some ⟨g, 0, none⟩), v] w fun e w' => e = .returned (.int .i64 (chooseP l r).1) ∧ RdAt F w' g (chooseP l r).2 ∧ Fr g w w' := by
  have HV := hid hv
  have HH := hid h
  have hgw := h.lt
  obtain ⟨a, c, rfl, hlen, _⟩ := hv
  obtain ⟨⟨X, Y⟩, hX⟩ : ∃ X, chooseP l r = X := ⟨_, rfl⟩
  rw [hX]
  dsimp only
  have HX := hid hX
  clear hX h
  go_enter Tryz.func48, Tryz.ntmps48
  go_wp2_with fail
  go_loopw [6, 9] (fun _ i wr => ∃ (k : Nat), k ≤ l.length ∧ i = .int .i64 k ∧ RdAt F wr g r ∧ Fr g w wr ∧ Hid (chooseP (l.drop k) r = (X, Y))) (fun _ i _ => l.length - (intOf i).toNat)
  case atStart => exact ⟨0, Nat.zero_le _, rfl, HH.out, Spares.refl _ _, hid (by rw [List.drop_zero]; exact HX.out)⟩
  case round =>
    obtain ⟨k, hk, rfl, hq, hf, HE⟩ := hrel
    by_cases hlt : k < l.length
    · obtain ⟨t, ht⟩ : ∃ t, l[k]? = some t := ⟨_, List.getElem?_eq_getElem hlt⟩
      have hd : l.drop k = t :: l.drop (k + 1) := by
        obtain ⟨h1, h2⟩ := List.getElem?_eq_some_iff.1 ht
        rw [List.drop_eq_getElem_cons h1, h2]
      have hlt' : ((k : Int) < (l.length : Int)) := by omega
      obtain ⟨a', c', hvv, _, h3⟩ := HV.out.keeps hf (fun i hi e => by omega)
      simp only [Value.slice.injEq] at hvv
      obtain ⟨rfl, _, rfl⟩ := hvv
      obtain ⟨b, rfl, hgb, hcell⟩ := h3 (fun e => by rw [e] at hlt; simp at hlt)
      obtain ⟨hc1, hc2⟩ := hcell k t ht
      clear hcell h3
      rw [hd, choose_cons] at HE
      obtain ⟨t1, t2⟩ := t
      dsimp only at HE hc1 hc2
      obtain ⟨W, hW, hbW, hzW, hcW⟩ := box8 wr (.cells #[.string (str8 t1), .int .i64 t2] 89)
      have kc := cells2 hcW
      have HCW := hid hcW
      have hgr := hq.lt
      have HQ := hid (hq.below hbW)
      have HF := hid (hf.thenNew hbW)
      cases hi : isR t1 r with
      | true =>
        rw [if_pos hi] at HE
        have HS := hid (skip_yes F g r W HQ.out t1 hi)
        clear hq hf hd ht hi hbW hcW
        go_wp2_with fail
        try rw [hW]
        clear hW
        refine HS.out.mono ?_
        rintro e w1 ⟨rfl, hr1, hf1⟩
        have kc2 := cells2 ((hf1.block wr.heap.size hzW (by omega)).trans HCW.out)
        have HR1 := hid hr1
        have HF1 := hid (HF.out.then hf1)
        clear hr1 hf1 HS kc
        go_wp2
        go_ret
        have := HE.out
        simp only [Prod.mk.injEq] at this
        obtain ⟨rfl, rfl⟩ := this
        exact ⟨rfl, HR1.out, HF1.out⟩
      | false =>
        rw [if_neg (by rw [hi]; exact Bool.false_ne_true)] at HE
        have HS := hid (skip_no F g r W HQ.out t1 hi)
        clear hq hf hd ht hi hbW hcW
        go_wp2_with fail
        try rw [hW]
        clear hW
        refine HS.out.mono ?_
        rintro e w1 ⟨rfl, hr1, hf1⟩
        have HR1 := hid hr1
        have HF1 := hid (HF.out.then hf1)
        clear hr1 hf1 HS kc
        go_wp2
        go_roundw
        case rel => exact ⟨k + 1, by omega, by go_num, HR1.out, HF1.out, HE⟩
        case measure => simp [intOf]; omega
    · have hlt' : ¬ ((k : Int) < (l.length : Int)) := by omega
      have HE2 : Hid ((0, r) = (X, Y)) := hid (by have := HE.out; rw [List.drop_of_length_le (by omega)] at this; exact this)
      have HQ := hid hq
      have HF := hid hf
      clear HE hq hf
      go_wp2
      go_ret
      have := HE2.out
      simp only [Prod.mk.injEq] at this
      obtain ⟨rfl, rfl⟩ := this
      exact ⟨rfl, HQ.out, HF.out⟩

theorem end_eq (r : Rd) : (endP r).2 = if (nowR r).k = 6 then r else failR 4 r := by unfold endP; split <;> rfl

set_option maxHeartbeats 1000000 in
theorem end_any (F g : Nat) (r : Rd) (w : World) (h : RdAt F w g r) :
    Calls Tryz.prog 26 #[.pointer (some ⟨g, 0, none⟩)] w fun e w' => e = .returned (.agg #[.int .i64 (endP r).2.bad, .int .i64 (endP r).2.bp]) ∧ RdAt F w' g (endP r).2 ∧ Fr g w w' := by
  rw [end_eq]
  have hgw := h.lt
  obtain ⟨W, hW, hbW, hzW, hcW⟩ := box8 w (.cells #[.int .i64 0, .int .i64 0] 26)
  have HH := hid (h.below hbW)
  have HF := hid (Spares.of_new (S := fun k => k = g) hbW)
  have HN := hid (now_any F g r W HH.out)
  have hft := fun w => (field_tok (nowR r).k (nowR r).n (nowR r).p (str8 (nowR r).s) w).1
  have HCW := hid hcW
  clear h hbW hcW
  by_cases hk : (nowR r).k = 6
  · rw [if_pos hk]
    have hk' : ((nowR r).k != 6) = false := by rw [hk]; rfl
    clear hk
    go_enter Tryz.func26, Tryz.ntmps26
    go_wp2_with fail
    try rw [hW]
    clear hW
    refine HN.out.mono ?_
    rintro e w1 ⟨rfl, hb1⟩
    obtain ⟨v, hv, _⟩ := (HH.out.below hb1).lie
    have HR := hid (HH.out.below hb1)
    have kg := cells4 hv
    have hcb := (hb1.block _ hzW).trans HCW.out
    have kc := cells2 hcb
    have HF1 := hid (HF.out.thenNew hb1)
    have hz1 := hb1.size
    clear HN hb1
    go_wp2
    have e1 := setCell_eq_setRow w1 w.heap.size 0 _ _ _ (.int .i64 r.bad) hcb
    have e2 := setCell_eq_setRow _ w.heap.size 1 _ _ _ (.int .i64 r.bp) (setRow_heap w1 w.heap.size _ (#[Value.int .i64 0, .int .i64 0].setIfInBounds 0 (.int .i64 r.bad)) _ _ hcb)
    rw [e1, e2, setRow_setRow]
    have hnew := setRow_heap w1 w.heap.size _ #[.int .i64 r.bad, .int .i64 r.bp] _ _ hcb
    refine bodyPost_ret (v := .agg #[.int .i64 r.bad, .int .i64 r.bp]) ?_ rfl ⟨rfl, HR.out.keeps (R := fun k => k = w.heap.size) (Spares.setRow (S := fun k => k = w.heap.size) (Spares.refl _ w1) (p := w.heap.size) (.inl rfl) _) (fun i hi e => by omega), HF1.out.setRow (.inr (Nat.le_refl _)) _⟩
    have kn := cells2 hnew
    simp [results, Tryz.results26, go_sem, kn]
  · rw [if_neg hk]
    have hk' : ((nowR r).k != 6) = true := by simpa using hk
    clear hk
    go_enter Tryz.func26, Tryz.ntmps26
    go_wp2_with fail
    try rw [hW]
    clear hW
    refine HN.out.mono ?_
    rintro e w0 ⟨rfl, hb0⟩
    have HX := hid (fail_any F g r w0 (HH.out.below hb0) 4 (by decide))
    have HF0 := hid (HF.out.thenNew hb0)
    have HC0 := hid ((hb0.block _ hzW).trans HCW.out)
    have hz0 := hb0.size
    clear HN hb0
    go_wp2_with fail
    refine HX.out.mono ?_
    rintro e w1 ⟨rfl, hr1, hf1⟩
    obtain ⟨v, hv, _⟩ := hr1.lie
    have HR := hid hr1
    have kg := cells4 hv
    have hcb := (hf1.block w.heap.size (by omega) (by omega)).trans HC0.out
    have kc := cells2 hcb
    have HF1 := hid (HF0.out.then hf1)
    have hz1 := hf1.size
    clear HX hr1 hf1
    go_wp2
    have e1 := setCell_eq_setRow w1 w.heap.size 0 _ _ _ (.int .i64 (failR 4 r).bad) hcb
    have e2 := setCell_eq_setRow _ w.heap.size 1 _ _ _ (.int .i64 (failR 4 r).bp) (setRow_heap w1 w.heap.size _ (#[Value.int .i64 0, .int .i64 0].setIfInBounds 0 (.int .i64 (failR 4 r).bad)) _ _ hcb)
    rw [e1, e2, setRow_setRow]
    have hnew := setRow_heap w1 w.heap.size _ #[.int .i64 (failR 4 r).bad, .int .i64 (failR 4 r).bp] _ _ hcb
    refine bodyPost_ret (v := .agg #[.int .i64 (failR 4 r).bad, .int .i64 (failR 4 r).bp]) ?_ rfl ⟨rfl, HR.out.keeps (R := fun k => k = w.heap.size) (Spares.setRow (S := fun k => k = w.heap.size) (Spares.refl _ w1) (p := w.heap.size) (.inl rfl) _) (fun i hi e => by omega), HF1.out.setRow (.inr (Nat.le_refl _)) _⟩
    have kn := cells2 hnew
    simp [results, Tryz.results26, go_sem, kn]

end Go.Proofs.YtokfphfgcjbpkaaGreatDoor
