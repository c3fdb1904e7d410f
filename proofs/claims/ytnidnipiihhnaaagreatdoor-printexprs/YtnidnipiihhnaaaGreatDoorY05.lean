/- Packed for the hand-in: LLaw -/
import Derived.Test.YtnidnipiihhnaaaGreatDoorY04
import Derived.Lib.Join
namespace Go.Proofs.YtnidnipiihhnaaaGreatDoor
set_option linter.unusedSimpArgs false
set_option linter.unusedVariables false
set_option maxHeartbeats 8000000
def wr (t : Tk) : List UInt8 := if t.k = 3 then Lib.itoa t.n else if t.k = 4 then [39] ++ (dbl t.s ++ [39]) else t.s
theorem dig_in (u : Nat) (h : u < 10) : inS digsB (UInt8.ofNat (48 + u)) = true ∧ (UInt8.ofNat (48 + u)).toNat = 48 + u := by
  refine ⟨?_, by simp; omega⟩
  match u, h with
  | 0, _ => decide
  | 1, _ => decide
  | 2, _ => decide
  | 3, _ => decide
  | 4, _ => decide
  | 5, _ => decide
  | 6, _ => decide
  | 7, _ => decide
  | 8, _ => decide
  | 9, _ => decide
theorem parse_snoc (d : UInt8) (hd : 48 ≤ d.toNat ∧ d.toNat ≤ 57) : ∀ (l : List UInt8) (acc u : Nat), Lib.parseUint10 acc l = .ok u → u < 1844674407370955162 → u * 10 + (d.toNat - 48) < 18446744073709551616 → Lib.parseUint10 acc (l ++ [d]) = .ok (u * 10 + (d.toNat - 48))
  | [], acc, u, h, h1, h2 => by
    simp only [Lib.parseUint10] at h
    injection h with h
    subst h
    simp only [List.nil_append, Lib.parseUint10]
    rw [if_pos hd, if_neg (by omega), if_neg (by omega)]
  | c :: r, acc, u, h, h1, h2 => by
    simp only [Lib.parseUint10] at h
    simp only [List.cons_append, Lib.parseUint10]
    split at h
    · rename_i hc
      rw [if_pos hc]
      split at h
      · cases h
      · rename_i g1
        rw [if_neg g1]
        split at h
        · cases h
        · rename_i g2
          rw [if_neg g2]
          exact parse_snoc d hd r _ u h h1 h2
    · cases h
theorem digits_facts (u : Nat) (h : u < 9223372036854775808) : (∀ c ∈ Lib.decDigits u, inS digsB c = true) ∧ Lib.parseUint10 0 (Lib.decDigits u) = .ok u ∧ Lib.decDigits u ≠ [] ∧ (Lib.decDigits u).length ≤ 19 ∧ (∀ k, u < 10 ^ (k + 1) → (Lib.decDigits u).length ≤ k + 1) := by
  suffices hmain : (∀ c ∈ Lib.decDigits u, inS digsB c = true) ∧ Lib.parseUint10 0 (Lib.decDigits u) = .ok u ∧ Lib.decDigits u ≠ [] ∧ (∀ k, u < 10 ^ (k + 1) → (Lib.decDigits u).length ≤ k + 1) from
    ⟨hmain.1, hmain.2.1, hmain.2.2.1, hmain.2.2.2 18 (by omega), hmain.2.2.2⟩
  induction u using Nat.strongRecOn with
  | _ u ih =>
    by_cases h10 : u < 10
    · have e : Lib.decDigits u = [UInt8.ofNat (48 + u)] := by rw [Lib.decDigits, dif_pos h10]
      obtain ⟨d1, d2⟩ := dig_in u h10
      rw [e]
      refine ⟨by simpa using d1, ?_, by simp, by simp⟩
      simp only [Lib.parseUint10]
      rw [d2, if_pos (by omega), if_neg (by omega), if_neg (by omega)]
      congr 1
      omega
    · have e : Lib.decDigits u = Lib.decDigits (u / 10) ++ [UInt8.ofNat (48 + u % 10)] := by rw [Lib.decDigits, dif_neg h10]
      obtain ⟨i1, i2, i3, i4⟩ := ih (u / 10) (by omega) (by omega)
      obtain ⟨d1, d2⟩ := dig_in (u % 10) (by omega)
      rw [e]
      refine ⟨fun c hc => ?_, ?_, by simp, fun k hk => ?_⟩
      · rcases List.mem_append.1 hc with hc | hc
        · exact i1 c hc
        · rw [List.mem_singleton] at hc; rw [hc]; exact d1
      · rw [parse_snoc _ (by rw [d2]; omega) _ _ _ i2 (by omega) (by rw [d2]; omega), d2]
        congr 1
        omega
      · rw [List.length_append, List.length_cons, List.length_nil]
        match k with
        | 0 => omega
        | k + 1 =>
          have := i4 k (by rw [Nat.pow_succ] at hk; omega)
          omega
theorem atoi_digits (u : Nat) (h : u < 9223372036854775808) : Lib.atoiAll (Lib.decDigits u) = .ok (u : Int) := by
  obtain ⟨h1, h2, h3, _, _⟩ := digits_facts u h
  match hd : Lib.decDigits u, h3 with
  | c :: r, _ =>
    rw [hd] at h1 h2
    have hc := h1 c (by simp)
    have hc2 : ¬ (c.toNat = 43 ∨ c.toNat = 45) ∧ ¬ c.toNat = 45 := by
      simp only [inS, digsB, List.contains_iff_mem, List.mem_cons, List.not_mem_nil, or_false] at hc
      rcases hc with rfl | rfl | rfl | rfl | rfl | rfl | rfl | rfl | rfl | rfl <;> decide
    unfold Lib.atoiAll
    dsimp only
    rw [if_neg hc2.1, Lib.parseMag, if_neg (by simp), h2]
    dsimp only
    rw [if_neg (by omega), if_neg (fun e => hc2.2 e.1), if_neg hc2.2]
theorem txt_dbl (x : List UInt8) (hx : x.head? ≠ some 39) : ∀ s : List UInt8, txt (dbl s ++ 39 :: x) = (s, x, true)
  | [] => by
    match x, hx with
    | [], _ => simp [dbl, txt]
    | d :: x, hx => simp at hx; simp [dbl, txt, hx]
  | c :: s => by
    have ih := txt_dbl x hx s
    by_cases hc : c = 39
    · subst hc
      have e : dbl (39 :: s) = 39 :: 39 :: dbl s := by simp [dbl]
      rw [e]
      simp [txt, ih]
    · have e : dbl (c :: s) = c :: dbl s := by simp [dbl, hc]
      rw [e]
      match hd : dbl s ++ 39 :: x with
      | [] => simp at hd
      | d :: y =>
        rw [List.cons_append, hd]
        rw [hd] at ih
        simp [txt, hc, ih]
def Gap (x : List UInt8) : Prop := x = [] ∨ ∃ r, x = 32 :: r
theorem Gap.stop {x : List UInt8} (h : Gap x) : Stop x := by
  rcases h with rfl | ⟨r, rfl⟩
  · exact .inl rfl
  · exact .inr ⟨32, r, rfl, by simp⟩
theorem Gap.head {x : List UInt8} (h : Gap x) : x.head? ≠ some 45 := by
  rcases h with rfl | ⟨r, rfl⟩ <;> simp
structure GoodT (t : Tk) : Prop where
  k6 : t.k ≠ 6
  len : t.s.length ≤ 40
  n0 : 0 ≤ t.n
  n1 : t.n ≤ 9223372036854775807
  wl : 1 ≤ (wr t).length
  sk : ∀ x, Gap x → skip false (wr t ++ x) = 0
  ct : ∀ x, Gap x → cutT (wr t ++ x) = (0, t.z, (wr t).length)
theorem good_num (v p : Int) (h0 : 0 ≤ v) (h1 : v ≤ 9223372036854775807) : GoodT ⟨3, [], v, p⟩ := by
  obtain ⟨u, rfl⟩ : ∃ u : Nat, v = u := ⟨v.toNat, by omega⟩
  obtain ⟨d1, d2, d3, _, _⟩ := digits_facts u (by omega)
  have ha := atoi_digits u (by omega)
  have hw : wr ⟨3, [], (u : Int), p⟩ = Lib.decDigits u := by
    unfold wr
    rw [if_pos rfl]
    unfold Lib.itoa
    rw [if_neg (by simp)]
    simp
  obtain ⟨c, r, hcr⟩ : ∃ c r, Lib.decDigits u = c :: r := by
    match h : Lib.decDigits u, d3 with
    | c :: r, _ => exact ⟨c, r, rfl⟩
  have hc := d1 c (by rw [hcr]; simp)
  have hcs : inS blksB c = false ∧ ¬ c = 45 ∧ ¬ inS lowsB c = true ∧ ¬ inS upsB c = true := by
    simp only [inS, digsB, List.contains_iff_mem, List.mem_cons, List.not_mem_nil, or_false] at hc
    rcases hc with rfl | rfl | rfl | rfl | rfl | rfl | rfl | rfl | rfl | rfl <;> decide
  refine ⟨by show (3 : Int) ≠ 6; decide, Nat.zero_le _, h0, h1, by rw [hw, hcr]; simp, fun x hx => ?_, fun x hx => ?_⟩
  · rw [hw, hcr, List.cons_append, skip, if_neg (by rw [hcs.1]; simp), if_neg (fun e => hcs.2.1 e.1)]
  · rw [hw]
    have hrow := row_append d1 (stop_row hx.stop).2.2.1
    have hh : Lib.decDigits u ++ x = c :: (r ++ x) := by rw [hcr]; rfl
    rw [head_ne_of_append hh, if_neg hcs.2.2.1, if_neg hcs.2.2.2, if_pos hc, cutNumT, hrow, List.drop_left, List.take_left, stop_runs hx.stop, if_neg (by simp), ha]
    rfl
theorem good_text (s : List UInt8) (p : Int) (h : s.length ≤ 40) : GoodT ⟨4, s, 0, p⟩ := by
  have hw : wr ⟨4, s, 0, p⟩ = 39 :: (dbl s ++ [39]) := by
    unfold wr
    rw [if_neg (show ¬ (4 : Int) = 3 by decide), if_pos rfl]
    rfl
  refine ⟨by show (4 : Int) ≠ 6; decide, h, Int.le_refl _, by show (0 : Int) ≤ _; decide, by rw [hw]; simp, fun x hx => ?_, fun x hx => ?_⟩
  · rw [hw, List.cons_append, skip, if_neg (by decide), if_neg (fun e => absurd e.1 (by decide))]
  · rw [hw, show (39 :: (dbl s ++ [39]) : List UInt8) ++ x = 39 :: (dbl s ++ 39 :: x) by simp]
    unfold cutT
    dsimp only
    rw [if_neg (by decide), if_neg (by decide), if_neg (by decide), if_pos (by decide), cutTextT, List.drop_succ_cons, List.drop_zero, txt_dbl x (stop_head hx.stop).2.2 s, textT]
    dsimp only
    rw [if_neg (by omega), if_neg (by simp)]
    simp only [List.length_cons, List.length_append, List.length_nil, Tk.z]
    congr 2
    omega
theorem words_short : ∀ g ∈ wordsB, g.length ≤ 40 := by decide
theorem skip_glue {s x : List UInt8} {n : Nat} (h : skip false s = 0) (h1 : 1 ≤ n) (h2 : n ≤ s.length) (hx : x.head? ≠ some 45) : skip false (s.take n ++ x) = 0 := by
  match s, n, h with
  | c :: r, n + 1, h =>
    rw [skip] at h
    rw [List.take_succ_cons, List.cons_append, skip]
    split at h
    · omega
    · rename_i hb
      split at h
      · omega
      · rename_i hr
        rw [if_neg hb, if_neg]
        rintro ⟨rfl, g2⟩
        cases n with
        | zero => exact hx g2
        | succ n =>
          cases r with
          | nil => exact hx g2
          | cons d r => exact hr ⟨rfl, g2⟩
  | c :: r, 0, _ => omega
  | [], n, _ => simp at h2; omega
theorem good_own {s : List UInt8} {t : Tk} {n : Nat} (hs : skip false s = 0) (hc : cutT s = (0, t, n)) (hk : t.k = 1 ∨ t.k = 2 ∨ t.k = 5) (hb : t.s = s.take n) (hl : t.s.length ≤ 40) (hn : t.n = 0) (p : Int) : GoodT ⟨t.k, t.s, t.n, p⟩ := by
  obtain ⟨h1, h2, hp, hloc⟩ := cut_local hc
  have hw : wr ⟨t.k, t.s, t.n, p⟩ = s.take n := by
    unfold wr
    rcases hk with e | e | e <;> simp [e, hb]
  have hl2 : (s.take n).length = n := by rw [List.length_take]; omega
  have hz : (⟨t.k, t.s, t.n, p⟩ : Tk).z = t := by
    obtain ⟨a, b, c, d⟩ := t
    simp only at hp
    subst hp
    rfl
  refine ⟨by show t.k ≠ 6; omega, hl, by show 0 ≤ t.n; omega, by show t.n ≤ _; omega, by rw [hw, hl2]; exact h1, fun x hx => ?_, fun x hx => ?_⟩
  · rw [hw]; exact skip_glue hs h1 h2 hx.head
  · rw [hw, hl2, hz]; exact hloc x hx.stop
theorem good_cut {s : List UInt8} {t : Tk} {n : Nat} (hs : skip false s = 0) (h : cutT s = (0, t, n)) (p : Int) : GoodT ⟨t.k, t.s, t.n, p⟩ := by
  have h0 := h
  match s, hs, h with
  | [], hs, h => simp [cutT] at h
  | c :: r, hs, h =>
    unfold cutT at h
    dsimp only at h
    by_cases hl : inS lowsB c = true
    · rw [if_pos hl] at h
      unfold cutNameT at h
      have h2 := row_le (inS nameB) (c :: r)
      split at h
      · cases h
      · split at h
        · cases h
        · rename_i g1 g2
          cases h
          exact good_own hs h0 (.inl rfl) rfl (by rw [List.length_take]; omega) rfl p
    · rw [if_neg hl] at h
      by_cases hu : inS upsB c = true
      · rw [if_pos hu] at h
        unfold cutWordT at h
        split at h
        · cases h
        · split at h
          · cases h
          · rename_i g1 g2
            cases h
            exact good_own hs h0 (.inr (.inl rfl)) rfl (words_short _ (by simpa using g2)) rfl p
      · rw [if_neg hu] at h
        by_cases hd : inS digsB c = true
        · rw [if_pos hd] at h
          unfold cutNumT at h
          split at h
          · cases h
          · have hhead : (c :: r).take (row (inS digsB) (c :: r)) = c :: r.take (row (inS digsB) r) := by rw [row_cons_pos hd, List.take_succ_cons]
            rw [hhead] at h
            have hc2 : ¬ c.toNat = 45 := by
              simp only [inS, digsB, List.contains_iff_mem, List.mem_cons, List.not_mem_nil, or_false] at hd
              rcases hd with rfl | rfl | rfl | rfl | rfl | rfl | rfl | rfl | rfl | rfl <;> decide
            cases ha : Lib.atoiAll (c :: r.take (row (inS digsB) r)) with
            | ok v =>
              rw [ha] at h
              cases h
              unfold Lib.atoiAll at ha
              dsimp only at ha
              split at ha
              · cases ha
              · cases ha
              · rename_i u _
                split at ha
                · cases ha
                · rename_i g
                  rw [if_neg (fun e => hc2 e.1)] at ha
                  try rw [if_neg hc2] at ha
                  injection ha with ha
                  subst ha
                  exact good_num (u : Int) p (by omega) (by have : ¬ 9223372036854775808 ≤ u := fun e => g ⟨hc2, e⟩; omega)
            | «syntax» => rw [ha] at h; cases h
            | range => rw [ha] at h; cases h
        · rw [if_neg hd] at h
          by_cases hq : inS [39] c = true
          · rw [if_pos hq] at h
            unfold cutTextT textT at h
            split at h
            · cases h
            · rename_i g1
              split at h
              · cases h
              · cases h
                exact good_text _ p (Nat.le_of_not_lt g1)
          · rw [if_neg hq, sign_eq] at h
            have hu2 := signH_used h
            have hb := signH_bytes h
            exact good_own hs h0 (.inr (.inr hu2.2.1)) hb (by rw [hb, List.length_take]; omega) hu2.2.2.1 p
end Go.Proofs.YtnidnipiihhnaaaGreatDoor
