/- Plain: a token is cut by its own bytes alone. -/
import Derived.Test.YtokfphfgcjbpkaaGreatDoorLPure
namespace Go.Proofs.YtokfphfgcjbpkaaGreatDoor
set_option linter.unusedVariables false
set_option linter.unusedSimpArgs false

theorem local_row {p : UInt8 → Bool} {c : UInt8} {r x : List UInt8} (hc : p c = true) (hx : row p x = 0) :
    (∃ y, (c :: r).take (row p (c :: r)) ++ x = c :: y) ∧ row p ((c :: r).take (row p (c :: r)) ++ x) = row p (c :: r) ∧ ((c :: r).take (row p (c :: r)) ++ x).drop (row p (c :: r)) = x ∧ ((c :: r).take (row p (c :: r)) ++ x).take (row p (c :: r)) = (c :: r).take (row p (c :: r)) := by
  have hl : ((c :: r).take (row p (c :: r))).length = row p (c :: r) := by
    rw [List.length_take]; have := row_le p (c :: r); omega
  refine ⟨⟨r.take (row p r) ++ x, by rw [row_cons_pos hc]; simp⟩, ?_, ?_, ?_⟩
  · rw [row_append (take_row_all p (c :: r)) hx, hl]
  · exact List.drop_left' hl
  · exact List.take_left' hl

/-- Which sign: by the first byte and the second one. -/
def oneS : List UInt8 := [40, 41, 44, 59, 46, 42, 43, 45, 47, 37, 61]
def signH (c : UInt8) (d : Option UInt8) : Nat × Tk × Nat :=
  if c = 60 then (if d = some 62 then (0, ⟨5, [60, 62], 0, 0⟩, 2) else if d = some 61 then (0, ⟨5, [60, 61], 0, 0⟩, 2) else (0, ⟨5, [60], 0, 0⟩, 1))
  else if c = 62 then (if d = some 61 then (0, ⟨5, [62, 61], 0, 0⟩, 2) else (0, ⟨5, [62], 0, 0⟩, 1))
  else if c ∈ oneS then (0, ⟨5, [c], 0, 0⟩, 1) else (4, zTk, 0)

theorem sign_eq (c : UInt8) (r : List UInt8) : cutSignT (c :: r) = signH c r.head? := by
  have one : ∀ g : UInt8, ([g].isPrefixOf (c :: r)) = (g == c) := fun g => by simp [List.isPrefixOf]
  have two : ∀ g h : UInt8, ([g, h].isPrefixOf (c :: r)) = (g == c && r.head? == some h) := fun g h => by
    cases r with
    | nil => simp [List.isPrefixOf]
    | cons d r =>
      simp only [List.isPrefixOf, List.head?_cons, Bool.and_true]
      congr 1
      rw [Bool.eq_iff_iff]
      simp
      exact eq_comm
  unfold cutSignT signsB signH oneS
  simp only [signT, one, two, List.length_cons, List.length_nil]
  by_cases h0 : c = 60
  · subst h0
    by_cases h1 : r.head? = some 62
    · simp [h1]
    · by_cases h2 : r.head? = some 61
      · simp [h1, h2]
      · simp [h1, h2]
  · by_cases h1 : c = 62
    · subst h1
      by_cases h2 : r.head? = some 61
      · simp [h2]
      · simp [h2]
    · have e0 : ((60 : UInt8) == c) = false := by simpa using fun e => h0 e.symm
      have e1 : ((62 : UInt8) == c) = false := by simpa using fun e => h1 e.symm
      simp only [e0, e1, Bool.false_and, if_neg h0, if_neg h1, Bool.false_eq_true, if_false, beq_iff_eq, List.mem_cons, List.not_mem_nil, or_false]
      by_cases g1 : c = 40
      · simp [g1]
      by_cases g2 : c = 41
      · simp [g2]
      by_cases g3 : c = 44
      · simp [g3]
      by_cases g4 : c = 59
      · simp [g4]
      by_cases g5 : c = 46
      · simp [g5]
      by_cases g6 : c = 42
      · simp [g6]
      by_cases g7 : c = 43
      · simp [g7]
      by_cases g8 : c = 45
      · simp [g8]
      by_cases g9 : c = 47
      · simp [g9]
      by_cases g10 : c = 37
      · simp [g10]
      by_cases g11 : c = 61
      · simp [g11]
      rw [if_neg (fun e => g1 e.symm), if_neg (fun e => g2 e.symm), if_neg (fun e => g3 e.symm), if_neg (fun e => g4 e.symm), if_neg (fun e => g5 e.symm), if_neg (fun e => g6 e.symm), if_neg (fun e => g7 e.symm), if_neg (fun e => g8 e.symm), if_neg (fun e => g9 e.symm), if_neg (fun e => g10 e.symm), if_neg (fun e => g11 e.symm)]
      simp [g1, g2, g3, g4, g5, g6, g7, g8, g9, g10, g11]

theorem signH_used {c : UInt8} {d : Option UInt8} {t : Tk} {n : Nat} (h : signH c d = (0, t, n)) : (n = 1 ∨ n = 2 ∧ d ≠ none) ∧ t.k = 5 ∧ t.n = 0 ∧ t.p = 0 := by
  unfold signH at h
  split at h
  · split at h
    · rename_i e; cases h; simp [e]
    · split at h
      · rename_i e; cases h; simp [e]
      · cases h; simp
  · split at h
    · split at h
      · rename_i e; cases h; simp [e]
      · cases h; simp
    · split at h
      · cases h; simp
      · cases h

/-- The sign's own bytes. -/
theorem signH_bytes {c : UInt8} {r : List UInt8} {t : Tk} {n : Nat} (h : signH c r.head? = (0, t, n)) : t.s = (c :: r).take n := by
  unfold signH at h
  split at h
  · rename_i ec
    split at h
    · rename_i e; cases h; cases r <;> simp_all
    · split at h
      · rename_i e; cases h; cases r <;> simp_all
      · cases h; simp_all
  · split at h
    · rename_i ec
      split at h
      · rename_i e; cases h; cases r <;> simp_all
      · cases h; simp_all
    · split at h
      · cases h; simp_all
      · cases h

theorem signH_one {c : UInt8} {d e : Option UInt8} {t : Tk} (h : signH c d = (0, t, 1)) (he : e ≠ some 62 ∧ e ≠ some 61) : signH c e = (0, t, 1) := by
  unfold signH at h ⊢
  split at h
  · rename_i ec
    rw [if_pos ec, if_neg he.1, if_neg he.2]
    split at h
    · cases h
    · split at h
      · cases h
      · exact h
  · rename_i ec
    rw [if_neg ec]
    split at h
    · rename_i ec2
      rw [if_pos ec2, if_neg he.2]
      split at h
      · cases h
      · exact h
    · rename_i ec2
      rw [if_neg ec2]
      exact h

theorem stop_head {x : List UInt8} (h : Stop x) : x.head? ≠ some 62 ∧ x.head? ≠ some 61 ∧ x.head? ≠ some 39 := by
  rcases h with rfl | ⟨c, r, rfl, h⟩
  · simp
  · rcases h with rfl | rfl | rfl | rfl | rfl <;> simp <;> decide

/-- A text that ends: its bytes, and what is behind it. -/
theorem txt_ends (r : List UInt8) : (txt r).2.2 = true → ∃ raw, r = raw ++ 39 :: (txt r).2.1 ∧ ∀ x : List UInt8, x.head? ≠ some 39 → txt (raw ++ 39 :: x) = ((txt r).1, x, true) := by
  have last : ∀ x : List UInt8, x.head? ≠ some 39 → txt (39 :: x) = ([], x, true) := fun x hx => by
    match x, hx with
    | [], _ => simp [txt]
    | d :: x, hx => simp at hx; simp [txt, hx]
  fun_induction txt r with
  | case1 => simp
  | case2 => exact fun _ => ⟨[], by simp, fun x hx => last x hx⟩
  | case3 c h => simp
  | case4 r ih =>
    intro h
    obtain ⟨raw, e, hx⟩ := ih h
    refine ⟨39 :: 39 :: raw, by simp [← e], fun x h => ?_⟩
    have := hx x h
    simp [txt, this]
  | case5 d r hd => exact fun _ => ⟨[], by simp, fun x hx => last x hx⟩
  | case6 c d r hc ih =>
    intro h
    obtain ⟨raw, e, hx⟩ := ih h
    refine ⟨c :: raw, by simp [← e], fun x h => ?_⟩
    have := hx x h
    match raw, this with
    | [], this => simp at this ⊢; simp [txt, hc, this]
    | a :: raw, this => simp at this ⊢; simp [txt, hc, this]

theorem txt_le (r : List UInt8) : (txt r).1.length + (txt r).2.1.length ≤ r.length := by
  fun_induction txt r with
  | case1 => simp
  | case2 => simp
  | case3 c h => simp
  | case4 r ih => simp; omega
  | case5 d r hd => simp
  | case6 c d r hc ih => simp at ih ⊢; omega

theorem head_ne_of_append {a x : List UInt8} {c : UInt8} {y : List UInt8} (h : a ++ x = c :: y) : cutT (a ++ x) = if inS lowsB c = true then cutNameT (a ++ x) else if inS upsB c = true then cutWordT (a ++ x) else if inS digsB c = true then cutNumT (a ++ x) else if inS [39] c = true then cutTextT (a ++ x) else cutSignT (a ++ x) := by
  rw [h]; rfl

theorem low_name {c : UInt8} (h : inS lowsB c = true) : inS nameB c = true := by
  simp only [inS, List.contains_iff_mem, nameB, List.mem_append] at h ⊢; exact .inl h

/-- A TOKEN THAT WAS CUT, cut again out of its own bytes with a stop behind: the same one. -/
theorem cut_local {s : List UInt8} {t : Tk} {n : Nat} (h : cutT s = (0, t, n)) : 1 ≤ n ∧ n ≤ s.length ∧ t.p = 0 ∧ ∀ x, Stop x → cutT (s.take n ++ x) = (0, t, n) := by
  match s, h with
  | [], h => simp [cutT] at h
  | c :: r, h =>
    unfold cutT at h
    dsimp only at h
    by_cases hl : inS lowsB c = true
    · rw [if_pos hl] at h
      unfold cutNameT at h
      have h1 := row_first (r := r) (low_name hl)
      have h2 := row_le (inS nameB) (c :: r)
      have hloc := fun x (hx : Stop x) => local_row (r := r) (low_name hl) (stop_row hx).1
      generalize hn : row (inS nameB) (c :: r) = m at *
      split at h
      · cases h
      · split at h
        · cases h
        · rename_i g1 g2
          cases h
          refine ⟨h1, h2, rfl, fun x hx => ?_⟩
          obtain ⟨⟨y, hy⟩, e1, e2, e3⟩ := hloc x hx
          rw [head_ne_of_append hy, if_pos hl, cutNameT, e1, e2, e3, stop_runs hx, if_neg (by simp), if_neg g2]
    · rw [if_neg hl] at h
      by_cases hu : inS upsB c = true
      · rw [if_pos hu] at h
        unfold cutWordT at h
        have h1 := row_first (r := r) hu
        have h2 := row_le (inS upsB) (c :: r)
        have hloc := fun x (hx : Stop x) => local_row (r := r) hu (stop_row hx).2.1
        generalize hn : row (inS upsB) (c :: r) = m at *
        split at h
        · cases h
        · split at h
          · cases h
          · rename_i g1 g2
            cases h
            refine ⟨h1, h2, rfl, fun x hx => ?_⟩
            obtain ⟨⟨y, hy⟩, e1, e2, e3⟩ := hloc x hx
            rw [head_ne_of_append hy, if_neg hl, if_pos hu, cutWordT, e1, e2, e3, stop_runs hx, if_neg (by simp), if_neg g2]
      · rw [if_neg hu] at h
        by_cases hd : inS digsB c = true
        · rw [if_pos hd] at h
          unfold cutNumT at h
          have h1 := row_first (r := r) hd
          have h2 := row_le (inS digsB) (c :: r)
          have hloc := fun x (hx : Stop x) => local_row (r := r) hd (stop_row hx).2.2.1
          generalize hn : row (inS digsB) (c :: r) = m at *
          split at h
          · cases h
          · rename_i g1
            have hm : m = n ∧ t.p = 0 := by
              cases ha : Lib.atoiAll ((c :: r).take m) <;> rw [ha] at h <;> cases h
              exact ⟨rfl, rfl⟩
            obtain ⟨rfl, hp⟩ := hm
            refine ⟨h1, h2, hp, fun x hx => ?_⟩
            obtain ⟨⟨y, hy⟩, e1, e2, e3⟩ := hloc x hx
            rw [head_ne_of_append hy, if_neg hl, if_neg hu, if_pos hd, cutNumT, e1, e2, e3, stop_runs hx, if_neg (by simp), h]
        · rw [if_neg hd] at h
          by_cases hq : inS [39] c = true
          · rw [if_pos hq] at h
            have hc : c = 39 := by simpa [inS] using hq
            subst hc
            unfold cutTextT at h
            rw [List.drop_succ_cons, List.drop_zero] at h
            unfold textT at h
            split at h
            · cases h
            · rename_i g1
              split at h
              · cases h
              · rename_i g2
                have hcl : (txt r).2.2 = true := by simpa using g2
                obtain ⟨raw, e, hx⟩ := txt_ends r hcl
                have hlen := congrArg List.length e
                simp only [List.length_append, List.length_cons] at hlen
                cases h
                have hnn : (39 :: r : List UInt8).length - (txt r).2.1.length = raw.length + 2 := by simp only [List.length_cons]; omega
                rw [hnn]
                have htk : (39 :: r : List UInt8).take (raw.length + 2) = 39 :: (raw ++ [39]) := by
                  rw [List.take_succ_cons]
                  conv => lhs; rw [e]
                  rw [List.take_append, List.take_of_length_le (by omega)]
                  simp
                refine ⟨by omega, by simp only [List.length_cons]; omega, rfl, fun x hxs => ?_⟩
                have e2 := hx x (stop_head hxs).2.2
                rw [htk, show (39 :: (raw ++ [39]) : List UInt8) ++ x = 39 :: (raw ++ 39 :: x) by simp]
                unfold cutT
                dsimp only
                rw [if_neg hl, if_neg hu, if_neg hd, if_pos hq, cutTextT, List.drop_succ_cons, List.drop_zero, e2, textT]
                dsimp only
                rw [if_neg g1, if_neg (by simp)]
                simp only [List.length_cons, List.length_append]
                congr 2
                omega
          · rw [if_neg hq, sign_eq] at h
            obtain ⟨hn, _, _, hp⟩ := signH_used h
            rcases hn with rfl | ⟨rfl, hne⟩
            · refine ⟨Nat.le_refl _, by simp, hp, fun x hx => ?_⟩
              rw [List.take_succ_cons, List.take_zero, List.cons_append, List.nil_append]
              unfold cutT
              dsimp only
              rw [if_neg hl, if_neg hu, if_neg hd, if_neg hq, sign_eq]
              exact signH_one h ⟨(stop_head hx).1, (stop_head hx).2.1⟩
            · match r, hne, h with
              | d :: r, _, h =>
                refine ⟨by omega, by simp, hp, fun x hx => ?_⟩
                rw [List.take_succ_cons, List.take_succ_cons, List.take_zero]
                show cutT (c :: d :: x) = _
                unfold cutT
                dsimp only
                rw [if_neg hl, if_neg hu, if_neg hd, if_neg hq, sign_eq]
                exact h

end Go.Proofs.YtokfphfgcjbpkaaGreatDoor
