/- LexLiterals: a literal is one token. -/
import Derived.Test.YtlbhaknceiehiaaDoorLBackL
namespace Go.Proofs.YtlbhaknceiehiaaDoor
open Go.RowKit Go.Shelf
set_option linter.unusedVariables false
set_option linter.unusedSimpArgs false
set_option maxRecDepth 20000

theorem one_tok (t : Tk) (hg : GoodT t) (hl : (wr t).length ≤ 2000) : ∃ a b, tokens (wr t) = (0, 0, [a, b]) ∧ a.k = t.k ∧ a.s = t.s ∧ a.n = t.n := by
  have e : Lib.join ([t].map wr) [32] = wr t := Lib.join_one _ _
  obtain ⟨l', h1, h2⟩ := back [t] (fun x hx => by rw [List.mem_singleton] at hx; rw [hx]; exact hg) (by rw [e]; exact hl)
  rw [e] at h1
  have hlen := congrArg List.length h2
  simp at hlen
  match l', h1, h2, hlen with
  | [a, b], h1, h2, _ =>
    simp only [List.map_cons, List.map_nil, List.cons_append, List.nil_append, List.cons.injEq, and_true] at h2
    have h3 := h2.1
    simp only [Tk.z, Tk.mk.injEq, and_true] at h3
    exact ⟨a, b, h1, h3.1, h3.2.1, h3.2.2⟩

/-- The right values. -/
theorem right_zero {x : Vl} (h : rightV x = 0) : x.s.length ≤ 40 ∧ ((x.k = 0 ∧ x.n = 0 ∧ x.s = []) ∨ (x.k = 1 ∧ x.s = []) ∨ (x.k = 2 ∧ x.n = 0)) := by
  unfold rightV at h
  split at h
  · cases h
  · rename_i h1
    have h1' : eqv x (namedV x) = true := by simpa using h1
    rw [eqv_iff] at h1'
    split at h
    · cases h
    · rename_i h2
      refine ⟨by omega, ?_⟩
      unfold namedV at h1'
      split at h1'
      · rename_i hk; right; left; rw [h1']; exact ⟨rfl, rfl⟩
      · split at h1'
        · right; right; rw [h1']; exact ⟨rfl, rfl⟩
        · left; rw [h1']; exact ⟨rfl, rfl, rfl⟩

theorem null_toks : tokens [78, 85, 76, 76] = (0, 0, [⟨2, [78, 85, 76, 76], 0, 0⟩, ⟨6, [], 0, 4⟩]) := by rfl

/-- What the tokens of a right value's literal are. -/
theorem lit_toks {x : Vl} (h : rightV x = 0) (hn : ¬ (x.k = 1 ∧ x.n < 0)) (hn1 : x.n ≤ 9223372036854775807) :
    (litV x).length ≤ 2000 ∧ ∃ a b, tokens (litV x) = (0, 0, [a, b]) ∧ ((x.k = 0 ∧ a.k = 2 ∧ a.s = [78, 85, 76, 76]) ∨ (x.k = 1 ∧ a.k = 3 ∧ a.n = x.n) ∨ (x.k = 2 ∧ a.k = 4 ∧ a.s = x.s)) := by
  obtain ⟨hs, hc⟩ := right_zero h
  rcases hc with ⟨hk, h1, h2⟩ | ⟨hk, h2⟩ | ⟨hk, h1⟩
  · have e : litV x = [78, 85, 76, 76] := by rw [litV, if_neg (by omega), if_neg (by omega)]
    rw [e]
    exact ⟨by decide, _, _, null_toks, .inl ⟨hk, rfl, rfl⟩⟩
  · have h0 : 0 ≤ x.n := by
      rcases Int.lt_or_le x.n 0 with h | h
      · exact absurd ⟨hk, h⟩ hn
      · exact h
    have e : litV x = wr ⟨3, [], x.n, 0⟩ := by rw [litV, if_pos hk, wr, if_pos rfl]
    have hl := wr_le (t := ⟨3, [], x.n, 0⟩) ⟨by simp, h0, hn1⟩
    rw [e]
    obtain ⟨a, b, h3, h4, h5, h6⟩ := one_tok _ (good_num x.n 0 h0 hn1) (by omega)
    exact ⟨by omega, a, b, h3, .inr (.inl ⟨hk, h4, h6⟩)⟩
  · have e : litV x = wr ⟨4, x.s, 0, 0⟩ := by
      rw [litV, if_neg (by omega), if_pos hk, wr, if_neg (show ¬ (4 : Int) = 3 by decide), if_pos rfl]
    have hl := wr_le (t := ⟨4, x.s, 0, 0⟩) ⟨hs, Int.le_refl _, by show (0 : Int) ≤ _; decide⟩
    rw [e]
    obtain ⟨a, b, h3, h4, h5, h6⟩ := one_tok _ (good_text x.s 0 hs) (by omega)
    exact ⟨by omega, a, b, h3, .inr (.inr ⟨hk, h4, h5⟩)⟩

/-- A value whose numbers fit and whose text is no longer than what may come in. -/
def OkW (x : Vl) : Prop := (-9223372036854775808 ≤ x.k ∧ x.k ≤ 9223372036854775807) ∧ (-9223372036854775808 ≤ x.n ∧ x.n ≤ 9223372036854775807) ∧ x.s.length ≤ 140737488351232

set_option maxHeartbeats 2000000 in
theorem lexLit_law (x : Vl) (w : World) (ox : OkW x) (hT : TabL w) :
    Calls Tryd.prog 7 #[.agg #[.int .i64 x.k, .int .i64 x.n, .string (str8 x.s)]] w fun e w' => e = .returned (.bool true) ∧ Below w.heap.size w w' := by
  have hlt0 : rightV x = 0 → ¬ (x.k = 1 ∧ x.n < 0) → _ := fun h hn => lit_toks h hn ox.2.1.2
  obtain ⟨k, n, s⟩ := x
  unfold OkW at ox
  dsimp only at ox hlt0 ⊢
  obtain ⟨W, hW, hbW, hzW, hcW⟩ := box3 w (.int .i64 k) (.int .i64 n) (.string (str8 s)) 36
  have HFS := hid hcW
  have HB := hid hbW
  have HTW := hid (hT.on hbW)
  have HSM := hid (small8_any W HTW.out)
  have HR := hid (fun V => right_any k n s V (by omega))
  clear hcW hbW hT
  have D0 : Hid (Below W.heap.size W W) := hid (Below.refl _ _)
  by_cases hr : rightV ⟨k, n, s⟩ = 0
  · rw [hr] at HR
    by_cases hneg : k = 1 ∧ n < 0
    · obtain ⟨rfl, hn⟩ := hneg
      have hn' : decide (n < 0) = true := decide_eq_true hn
      clear hlt0 hr
      go_enter Tryd.func7, Tryd.ntmps7
      go_wp2_with fail
      try rw [hW]
      clear hW
      refine HSM.out.mono ?_
      rintro e w1 ⟨rfl, hb1⟩
      have D1 : Hid (Below W.heap.size W w1) := hid hb1
      have hS1 := HFS.out w1 hb1
      clear hb1
      go_wp2_with fail
      refine (HR.out _).mono ?_
      rintro e w2 ⟨rfl, hb2⟩
      have D2 : Hid (Below W.heap.size W w2) := hid (D1.out.trans (hb2.mono D1.out.size))
      have hS2 := HFS.out w2 D2.out
      clear hb2
      go_wp2
      go_ret
      exact ⟨rfl, HB.out.trans (D2.out.mono HB.out.size)⟩
    · obtain ⟨hll, a, b, htk, hcase⟩ := hlt0 hr hneg
      have hk1 : (k = 1 ∧ 0 ≤ n) ∨ k ≠ 1 := by
        by_cases h1 : k = 1
        · exact .inl ⟨h1, by rcases Int.lt_or_le n 0 with h | h; exact absurd ⟨h1, h⟩ hneg; exact h⟩
        · exact .inr h1
      have hs40 := (right_zero hr).1
      dsimp only at hs40
      have HL := hid (fun V (h : TabL V) => literal_any k n s V h.tv ox.2.1.1 ox.2.1.2 (by omega))
      have HK := hid (fun V (h : TabL V) => tokens_any (litV ⟨k, n, s⟩) V h (by omega))
      rw [htk] at HK
      dsimp only at HK hcase
      generalize litV ⟨k, n, s⟩ = J at HL HK
      obtain ⟨ak, av, an, ap⟩ := a
      obtain ⟨bk, bv, bn, bp⟩ := b
      dsimp only at hcase
      clear hlt0 htk hll hneg hr
      rcases hcase with ⟨hk, hak, has⟩ | ⟨hk, hak, han⟩ | ⟨hk, hak, has⟩
      · subst hk hak has
        clear hk1
        have hnull : ((str8 [78, 85, 76, 76]).toList == (⟨#[78, 85, 76, 76]⟩ : ByteArray).toList) = true := by
          show ((str8 [78, 85, 76, 76]).toList == (str8 [78, 85, 76, 76]).toList) = true
          simp
        go_enter Tryd.func7, Tryd.ntmps7
        go_wp2_with fail
        try rw [hW]
        clear hW
        refine HSM.out.mono ?_
        rintro e w1 ⟨rfl, hb1⟩
        have D1 : Hid (Below W.heap.size W w1) := hid hb1
        have hS1 := HFS.out w1 hb1
        clear hb1
        go_wp2_with fail
        refine (HR.out _).mono ?_
        rintro e w2 ⟨rfl, hb2⟩
        have D2 : Hid (Below W.heap.size W w2) := hid (D1.out.trans (hb2.mono D1.out.size))
        have hS2 := HFS.out w2 D2.out
        clear hb2
        go_wp2_with fail
        refine (HL.out _ (HTW.out.on D2.out)).mono ?_
        rintro e w3 ⟨rfl, hb3⟩
        have D3 : Hid (Below W.heap.size W w3) := hid (D2.out.trans (hb3.mono D2.out.size))
        have hS3 := HFS.out w3 D3.out
        clear hb3
        go_wp2_with fail
        refine (HK.out _ (HTW.out.on D3.out)).mono ?_
        rintro e w4 ⟨v, rfl, htok, hb4⟩
        have D4 : Hid (Below W.heap.size W w4) := hid (D3.out.trans (hb4.mono D3.out.size))
        have hS4 := HFS.out w4 D4.out
        have hS5 := fun o => HFS.out (w4.alloc o) (D4.out.alloc D4.out.size o)
        have hS6 := fun o o' => HFS.out ((w4.alloc o).alloc o') ((D4.out.alloc D4.out.size o).alloc (Nat.le_trans D4.out.size (by simp)) o')
        obtain ⟨va, vc, rfl, q1, q2, q3⟩ := htok
        obtain ⟨b, off, rfl, hlt, hcell⟩ := q3 (by simp)
        have f : ∀ o, (w4.alloc o).cell? ⟨b, off, none⟩ = some (.int .i64 2) ∧ (w4.alloc o).cell? ⟨b, off + 1, none⟩ = some (.string (str8 [78, 85, 76, 76])) ∧ (w4.alloc o).cell? ⟨b, off + 2, none⟩ = some (.int .i64 an) ∧ (w4.alloc o).cell? ⟨b, off + 3, none⟩ = some (.int .i64 ap) := fun o => by
          have hb : Below w4.heap.size w4 (w4.alloc o) := (Below.refl _ _).alloc (Nat.le_refl _) o
          have kk : ∀ i u, w4.cell? ⟨b, i, none⟩ = some u → (w4.alloc o).cell? ⟨b, i, none⟩ = some u := fun i u h => (hb.cell (p := ⟨b, i, none⟩) hlt).trans h
          obtain ⟨a0, a1, a2, a3⟩ := hcell 0 _ rfl
          exact ⟨kk _ _ a0, kk _ _ a1, kk _ _ a2, kk _ _ a3⟩
        have HE : Hid (∀ o o', Below w.heap.size w ((w4.alloc o).alloc o')) := hid (fun o o' => HB.out.trans (((D4.out.alloc D4.out.size o).alloc (Nat.le_trans D4.out.size (by simp)) o').mono HB.out.size))
        clear hb4 hcell q3
        go_wp2
        go_ret
        exact ⟨by simp [str8_toList], HE.out _ _⟩
      · subst hk hak han
        have hn0 : ¬ (an < 0) := by rcases hk1 with h | h; omega; exact absurd rfl h
        have hn' : decide (an < 0) = false := decide_eq_false hn0
        clear hk1
        go_enter Tryd.func7, Tryd.ntmps7
        go_wp2_with fail
        try rw [hW]
        clear hW
        refine HSM.out.mono ?_
        rintro e w1 ⟨rfl, hb1⟩
        have D1 : Hid (Below W.heap.size W w1) := hid hb1
        have hS1 := HFS.out w1 hb1
        clear hb1
        go_wp2_with fail
        refine (HR.out _).mono ?_
        rintro e w2 ⟨rfl, hb2⟩
        have D2 : Hid (Below W.heap.size W w2) := hid (D1.out.trans (hb2.mono D1.out.size))
        have hS2 := HFS.out w2 D2.out
        clear hb2
        go_wp2_with fail
        refine (HL.out _ (HTW.out.on D2.out)).mono ?_
        rintro e w3 ⟨rfl, hb3⟩
        have D3 : Hid (Below W.heap.size W w3) := hid (D2.out.trans (hb3.mono D2.out.size))
        have hS3 := HFS.out w3 D3.out
        clear hb3
        go_wp2_with fail
        refine (HK.out _ (HTW.out.on D3.out)).mono ?_
        rintro e w4 ⟨v, rfl, htok, hb4⟩
        have D4 : Hid (Below W.heap.size W w4) := hid (D3.out.trans (hb4.mono D3.out.size))
        have hS4 := HFS.out w4 D4.out
        have hS5 := fun o => HFS.out (w4.alloc o) (D4.out.alloc D4.out.size o)
        have hS6 := fun o o' => HFS.out ((w4.alloc o).alloc o') ((D4.out.alloc D4.out.size o).alloc (Nat.le_trans D4.out.size (by simp)) o')
        obtain ⟨va, vc, rfl, q1, q2, q3⟩ := htok
        obtain ⟨b, off, rfl, hlt, hcell⟩ := q3 (by simp)
        have f : ∀ o, (w4.alloc o).cell? ⟨b, off, none⟩ = some (.int .i64 3) ∧ (w4.alloc o).cell? ⟨b, off + 1, none⟩ = some (.string (str8 av)) ∧ (w4.alloc o).cell? ⟨b, off + 2, none⟩ = some (.int .i64 an) ∧ (w4.alloc o).cell? ⟨b, off + 3, none⟩ = some (.int .i64 ap) := fun o => by
          have hb : Below w4.heap.size w4 (w4.alloc o) := (Below.refl _ _).alloc (Nat.le_refl _) o
          have kk : ∀ i u, w4.cell? ⟨b, i, none⟩ = some u → (w4.alloc o).cell? ⟨b, i, none⟩ = some u := fun i u h => (hb.cell (p := ⟨b, i, none⟩) hlt).trans h
          obtain ⟨a0, a1, a2, a3⟩ := hcell 0 _ rfl
          exact ⟨kk _ _ a0, kk _ _ a1, kk _ _ a2, kk _ _ a3⟩
        have HE : Hid (∀ o o', Below w.heap.size w ((w4.alloc o).alloc o')) := hid (fun o o' => HB.out.trans (((D4.out.alloc D4.out.size o).alloc (Nat.le_trans D4.out.size (by simp)) o').mono HB.out.size))
        clear hb4 hcell q3
        go_wp2
        go_ret
        exact ⟨by simp, HE.out _ _⟩
      · subst hk hak has
        clear hk1
        have hss : ((str8 av).toList == (str8 av).toList) = true := by simp
        go_enter Tryd.func7, Tryd.ntmps7
        go_wp2_with fail
        try rw [hW]
        clear hW
        refine HSM.out.mono ?_
        rintro e w1 ⟨rfl, hb1⟩
        have D1 : Hid (Below W.heap.size W w1) := hid hb1
        have hS1 := HFS.out w1 hb1
        clear hb1
        go_wp2_with fail
        refine (HR.out _).mono ?_
        rintro e w2 ⟨rfl, hb2⟩
        have D2 : Hid (Below W.heap.size W w2) := hid (D1.out.trans (hb2.mono D1.out.size))
        have hS2 := HFS.out w2 D2.out
        clear hb2
        go_wp2_with fail
        refine (HL.out _ (HTW.out.on D2.out)).mono ?_
        rintro e w3 ⟨rfl, hb3⟩
        have D3 : Hid (Below W.heap.size W w3) := hid (D2.out.trans (hb3.mono D2.out.size))
        have hS3 := HFS.out w3 D3.out
        clear hb3
        go_wp2_with fail
        refine (HK.out _ (HTW.out.on D3.out)).mono ?_
        rintro e w4 ⟨v, rfl, htok, hb4⟩
        have D4 : Hid (Below W.heap.size W w4) := hid (D3.out.trans (hb4.mono D3.out.size))
        have hS4 := HFS.out w4 D4.out
        have hS5 := fun o => HFS.out (w4.alloc o) (D4.out.alloc D4.out.size o)
        have hS6 := fun o o' => HFS.out ((w4.alloc o).alloc o') ((D4.out.alloc D4.out.size o).alloc (Nat.le_trans D4.out.size (by simp)) o')
        obtain ⟨va, vc, rfl, q1, q2, q3⟩ := htok
        obtain ⟨b, off, rfl, hlt, hcell⟩ := q3 (by simp)
        have f : ∀ o, (w4.alloc o).cell? ⟨b, off, none⟩ = some (.int .i64 4) ∧ (w4.alloc o).cell? ⟨b, off + 1, none⟩ = some (.string (str8 av)) ∧ (w4.alloc o).cell? ⟨b, off + 2, none⟩ = some (.int .i64 an) ∧ (w4.alloc o).cell? ⟨b, off + 3, none⟩ = some (.int .i64 ap) := fun o => by
          have hb : Below w4.heap.size w4 (w4.alloc o) := (Below.refl _ _).alloc (Nat.le_refl _) o
          have kk : ∀ i u, w4.cell? ⟨b, i, none⟩ = some u → (w4.alloc o).cell? ⟨b, i, none⟩ = some u := fun i u h => (hb.cell (p := ⟨b, i, none⟩) hlt).trans h
          obtain ⟨a0, a1, a2, a3⟩ := hcell 0 _ rfl
          exact ⟨kk _ _ a0, kk _ _ a1, kk _ _ a2, kk _ _ a3⟩
        have HE : Hid (∀ o o', Below w.heap.size w ((w4.alloc o).alloc o')) := hid (fun o o' => HB.out.trans (((D4.out.alloc D4.out.size o).alloc (Nat.le_trans D4.out.size (by simp)) o').mono HB.out.size))
        clear hb4 hcell q3
        go_wp2
        go_ret
        exact ⟨by simp, HE.out _ _⟩
  · have hr' : (((rightV ⟨k, n, s⟩ : Nat) : Int) != 0) = true := by rw [bne_iff_ne]; omega
    clear hlt0 hr
    generalize ((rightV ⟨k, n, s⟩ : Nat) : Int) = R at HR hr'
    go_enter Tryd.func7, Tryd.ntmps7
    go_wp2_with fail
    try rw [hW]
    clear hW
    refine HSM.out.mono ?_
    rintro e w1 ⟨rfl, hb1⟩
    have D1 : Hid (Below W.heap.size W w1) := hid hb1
    have hS1 := HFS.out w1 hb1
    clear hb1
    go_wp2_with fail
    refine (HR.out _).mono ?_
    rintro e w2 ⟨rfl, hb2⟩
    have D2 : Hid (Below W.heap.size W w2) := hid (D1.out.trans (hb2.mono D1.out.size))
    have hS2 := HFS.out w2 D2.out
    clear hb2
    go_wp2
    go_ret
    exact ⟨rfl, HB.out.trans (D2.out.mono HB.out.size)⟩
end Go.Proofs.YtlbhaknceiehiaaDoor
