/- Plain: between tokens stand blanks alone; two sources joined; what was written is cut into the same tokens. -/
import Derived.Test.YtokfphfgcjbpkaaGreatDoorLToks
namespace Go.Proofs.YtokfphfgcjbpkaaGreatDoor
set_option linter.unusedVariables false
set_option linter.unusedSimpArgs false

/-- A token and the blanks behind it, by themselves. -/
theorem apart_one {s1 : List UInt8} {t : Tk} {n k2 : Nat} (hk0 : skip false s1 = 0) (hc : cutT s1 = (0, t, n)) (hk2e : skip false (s1.drop n) = k2) (hlen : s1.length ≤ 2000) : tokens (s1.take (n + k2)) = (0, 0, [⟨t.k, t.s, t.n, 0⟩, ⟨6, [], 0, ((n + k2 : Nat) : Int)⟩]) := by
  obtain ⟨hn1, hn2, hp, hloc⟩ := cut_local hc
  have hk2 := skip_le (s1.drop n) false
  have hself := skip_self (s1.drop n) false
  have hstop := stop_blanks (s1.drop n)
  rw [hk2e] at hk2 hself hstop
  rw [List.length_drop] at hk2
  have hpc : s1.take (n + k2) = s1.take n ++ (s1.drop n).take k2 := List.take_add
  have hpl : (s1.take (n + k2)).length = n + k2 := by rw [List.length_take]; omega
  have hsk : skip false (s1.take (n + k2)) = 0 := skip_take hk0 _
  have hcut : cutT (s1.take (n + k2)) = (0, t, n) := by rw [hpc]; exact hloc _ hstop
  have hdr : (s1.take (n + k2)).drop n = (s1.drop n).take k2 := by
    rw [hpc]; exact List.drop_left' (by rw [List.length_take]; omega)
  have hxl : ((s1.drop n).take k2).length = k2 := by rw [List.length_take, List.length_drop]; omega
  unfold tokens
  rw [if_neg (by omega), hpl]
  obtain ⟨g, hg⟩ : ∃ g, n + k2 = g + 1 := ⟨n + k2 - 1, by omega⟩
  have h0 := toks_one (f := n + k2) (s := s1.take (n + k2)) (at' := 0) (t := t) (n := n) (by omega) (by rw [hsk, List.drop_zero]; exact hcut)
  rw [hsk, List.drop_zero, hdr] at h0
  rw [h0]
  have h1 : toks (n + k2) ((s1.drop n).take k2) (0 + 0 + n) = (0, 0, [⟨6, [], 0, ((n + k2 : Nat) : Int)⟩]) := by
    rw [hg, toks_end (by rw [hself]; omega), hself, ← hg]
    simp
  rw [h1]
  simp [conT]

/-- BETWEEN TOKENS STAND BLANKS ALONE: what lies from one token up to the next one is that token. -/
theorem apart : ∀ (f : Nat) (s : List UInt8) (at' : Nat) (S : List UInt8), s.length < f → S.drop at' = s → S.length ≤ 2000 → (toks f s at').1 = 0 → ∀ (i : Nat) (a b : Tk), (toks f s at').2.2[i]? = some a → (toks f s at').2.2[i + 1]? = some b →
    ∃ p q : Nat, a.p = p ∧ b.p = q ∧ p < q ∧ q ≤ S.length ∧ tokens ((S.drop p).take (q - p)) = (0, 0, [a.z, ⟨6, [], 0, ((q - p : Nat) : Int)⟩])
  | f + 1, s, at', S, hf, hS, hlen, h, i, a, b, ha, hb => by
    have hsl : s.length = S.length - at' := by rw [← hS]; simp
    rcases toks_ok h with ⟨hl, e⟩ | ⟨t, n, hlt, hc, h1, e⟩
    · rw [e] at hb; simp at hb
    · obtain ⟨hn1, hn2, hp, hloc⟩ := cut_local hc
      rw [List.length_drop] at hn2
      have hs2 : ((s.drop (skip false s)).drop n).length = s.length - skip false s - n := by rw [List.length_drop, List.length_drop]
      have hk2 := skip_le ((s.drop (skip false s)).drop n) false
      rw [hs2] at hk2
      rw [e] at ha hb
      match i with
      | 0 =>
        obtain ⟨f', rfl⟩ : ∃ f', f = f' + 1 := ⟨f - 1, by omega⟩
        obtain ⟨b', r, hb', hbp⟩ := toks_first h1
        rw [hb'] at hb
        rw [List.getElem?_cons_zero] at ha
        rw [List.getElem?_cons_succ, List.getElem?_cons_zero] at hb
        cases ha
        cases hb
        have hone := apart_one (skip_drop s false) hc rfl (by rw [List.length_drop]; omega)
        refine ⟨at' + skip false s, at' + skip false s + n + skip false ((s.drop (skip false s)).drop n), rfl, hbp, by omega, by omega, ?_⟩
        have hSd : S.drop (at' + skip false s) = s.drop (skip false s) := by rw [← List.drop_drop, hS]
        rw [hSd, show at' + skip false s + n + skip false ((s.drop (skip false s)).drop n) - (at' + skip false s) = n + skip false ((s.drop (skip false s)).drop n) by omega]
        exact hone
      | i + 1 =>
        exact apart f _ _ S (by omega) (by rw [← hS]; simp [Nat.add_assoc]) hlen h1 i a b (by simpa using ha) (by simpa using hb)

theorem skip_nl : ∀ (s : List UInt8) (b : Bool) (t : List UInt8), (skip b s < s.length → skip b (s ++ 10 :: t) = skip b s) ∧ (skip b s = s.length → skip b (s ++ 10 :: t) = s.length + 1 + skip false t)
  | [], b, t => by
    refine ⟨fun h => by simp at h, fun _ => ?_⟩
    cases b
    · simp [skip, inS, blksB]
    · simp [skip]
  | c :: r, true, t => by
    obtain ⟨h1, h2⟩ := skip_nl r (c != 10) t
    rw [List.cons_append, skip, skip, List.length_cons]
    exact ⟨fun h => by rw [h1 (by omega)], fun h => by rw [h2 (by omega)]; omega⟩
  | c :: r, false, t => by
    obtain ⟨h1, h2⟩ := skip_nl r false t
    obtain ⟨g1, g2⟩ := skip_nl r true t
    have hh : (r ++ 10 :: t).head? = some 45 ↔ r.head? = some 45 := by
      cases r with
      | nil => simp
      | cons d r => simp
    rw [List.cons_append, skip, skip, List.length_cons]
    by_cases hb : inS blksB c = true
    · rw [if_pos hb, if_pos hb]
      exact ⟨fun h => by rw [h1 (by omega)], fun h => by rw [h2 (by omega)]; omega⟩
    · rw [if_neg hb, if_neg hb]
      by_cases hr : c = 45 ∧ r.head? = some 45
      · rw [if_pos hr, if_pos ⟨hr.1, hh.2 hr.2⟩]
        exact ⟨fun h => by rw [g1 (by omega)], fun h => by rw [g2 (by omega)]; omega⟩
      · rw [if_neg hr, if_neg (fun e => hr ⟨e.1, hh.1 e.2⟩)]
        exact ⟨fun _ => rfl, fun h => by omega⟩

theorem row_nl {p : UInt8 → Bool} (hp : p 10 = false) (s u : List UInt8) : row p (s ++ 10 :: u) = row p s := by
  induction s with
  | nil => rw [List.nil_append, row_cons_neg hp]; rfl
  | cons c s ih =>
    rw [List.cons_append]
    cases h : p c
    · rw [row_cons_neg h, row_cons_neg h]
    · rw [row_cons_pos h, row_cons_pos h, ih]

theorem runs_nl {p : UInt8 → Bool} (hp : p 10 = false) (s u : List UInt8) : runsB ((s ++ 10 :: u).drop (row p s)) = runsB (s.drop (row p s)) ∧ (s ++ 10 :: u).take (row p s) = s.take (row p s) := by
  have hle := row_le p s
  rw [List.drop_append_of_le_length hle, List.take_append_of_le_length hle]
  refine ⟨?_, rfl⟩
  unfold runsB
  rw [row_nl (by decide)]

theorem txt_nl (r u : List UInt8) : ((txt r).2.2 = true → txt (r ++ 10 :: u) = ((txt r).1, (txt r).2.1 ++ 10 :: u, true)) ∧ ((txt r).2.2 = false → (txt r).1.length ≤ (txt (r ++ 10 :: u)).1.length) := by
  fun_induction txt r with
  | case1 => simp
  | case2 => simp [txt]
  | case3 c h => simp [txt, h]
  | case4 r ih =>
    refine ⟨fun h => ?_, fun h => ?_⟩
    · have := ih.1 h; simp [txt, this]
    · have := ih.2 h; simp [txt]; omega
  | case5 d r hd => simp [txt, hd]
  | case6 c d r hc ih =>
    refine ⟨fun h => ?_, fun h => ?_⟩
    · have := ih.1 h; simp at this; simp [txt, hc, this]
    · have := ih.2 h; simp at this; simp [txt, hc]; omega

/-- A byte 10 behind changes nothing of a token, but where a text goes on. -/
theorem cut_nl {s : List UInt8} (hs : s ≠ []) (h3 : (cutT s).1 ≠ 3) (u : List UInt8) : cutT (s ++ 10 :: u) = cutT s := by
  match s, hs with
  | c :: r, _ =>
    rw [List.cons_append]
    unfold cutT at h3 ⊢
    dsimp only at h3 ⊢
    by_cases hl : inS lowsB c = true
    · rw [if_pos hl, if_pos hl, ← List.cons_append]
      unfold cutNameT
      rw [row_nl (by decide), (runs_nl (by decide) _ _).1, (runs_nl (by decide) _ _).2]
    · rw [if_neg hl] at h3
      rw [if_neg hl, if_neg hl]
      by_cases hu : inS upsB c = true
      · rw [if_pos hu, if_pos hu, ← List.cons_append]
        unfold cutWordT
        rw [row_nl (by decide), (runs_nl (by decide) _ _).1, (runs_nl (by decide) _ _).2]
      · rw [if_neg hu] at h3
        rw [if_neg hu, if_neg hu]
        by_cases hd : inS digsB c = true
        · rw [if_pos hd, if_pos hd, ← List.cons_append]
          unfold cutNumT
          rw [row_nl (by decide), (runs_nl (by decide) _ _).1, (runs_nl (by decide) _ _).2]
        · rw [if_neg hd] at h3
          rw [if_neg hd, if_neg hd]
          by_cases hq : inS [39] c = true
          · rw [if_pos hq] at h3
            rw [if_pos hq, if_pos hq]
            unfold cutTextT at h3 ⊢
            rw [List.drop_succ_cons, List.drop_zero] at h3 ⊢
            rw [List.drop_succ_cons, List.drop_zero]
            unfold textT at h3 ⊢
            obtain ⟨g1, g2⟩ := txt_nl r u
            by_cases hcl : (txt r).2.2 = true
            · rw [g1 hcl, hcl]
              dsimp only
              simp only [List.length_cons, List.length_append]
              have := txt_le r
              rw [show r.length + (u.length + 1) + 1 - ((txt r).2.1.length + (u.length + 1)) = r.length + 1 - (txt r).2.1.length by omega]
            · have hcl' : (txt r).2.2 = false := by simpa using hcl
              have := g2 hcl'
              by_cases h40 : 40 < (txt r).1.length
              · rw [if_pos h40, if_pos (by omega)]
              · rw [if_neg h40, if_pos hcl'] at h3
                exact absurd rfl h3
          · rw [if_neg hq, if_neg hq, sign_eq, sign_eq]
            cases r with
            | nil =>
              simp only [List.nil_append, List.head?_cons, List.head?_nil]
              unfold signH
              simp
            | cons d r => rfl

/-- The same text at another place. -/
theorem toks_shift : ∀ (f : Nat) (s : List UInt8) (a d : Nat), (toks f s (a + d)).1 = (toks f s a).1 ∧ ((toks f s a).1 ≠ 0 → (toks f s (a + d)).2.1 = (toks f s a).2.1 + d) ∧ (toks f s (a + d)).2.2.map Tk.z = (toks f s a).2.2.map Tk.z
  | 0, s, a, d => by simp [toks]
  | f + 1, s, a, d => by
    by_cases h : s.length ≤ skip false s
    · rw [toks_end h, toks_end h]
      simp [Tk.z]
    · obtain ⟨⟨e, t, n⟩, hc⟩ : ∃ x, cutT (s.drop (skip false s)) = x := ⟨_, rfl⟩
      by_cases he : e = 0
      · subst he
        rw [toks_one (by omega) hc, toks_one (by omega) hc]
        have ih := toks_shift f ((s.drop (skip false s)).drop n) (a + skip false s + n) d
        rw [show a + d + skip false s + n = a + skip false s + n + d by omega]
        obtain ⟨i1, i2, i3⟩ := ih
        unfold conT
        rw [i1]
        by_cases h0 : (toks f ((s.drop (skip false s)).drop n) (a + skip false s + n)).1 = 0
        · rw [if_pos h0, if_pos h0]
          refine ⟨rfl, fun h => absurd rfl h, ?_⟩
          rw [List.map_cons, List.map_cons, i3]
          rfl
        · rw [if_neg h0, if_neg h0]
          exact ⟨i1, i2, i3⟩
      · rw [toks_err (by omega) hc he, toks_err (by omega) hc he]
        refine ⟨rfl, fun _ => ?_, rfl⟩
        show ((a + d + skip false s : Nat) : Int) = ((a + skip false s : Nat) : Int) + d
        omega

/-- TWO SOURCES JOINED by a byte 10. -/
theorem joins : ∀ (f g : Nat) (s t : List UInt8) (at' : Nat), s.length < f → (s ++ 10 :: t).length < g →
    ((toks f s at').1 = 0 → ∃ l e, (toks f s at').2.2 = l ++ [e] ∧ toks g (s ++ 10 :: t) at' = l.foldr conT (toks (t.length + 1) t (at' + s.length + 1))) ∧
    ((toks f s at').1 ≠ 0 → (toks f s at').1 = 3 ∨ toks g (s ++ 10 :: t) at' = toks f s at')
  | f + 1, g + 1, s, t, at', hf, hg => by
    have hle := skip_le s false
    have hX : (s ++ 10 :: t).length = s.length + 1 + t.length := by simp; omega
    by_cases hs : s.length ≤ skip false s
    · have hk : skip false s = s.length := by omega
      have hk2 := (skip_nl s false t).2 hk
      rw [toks_end hs]
      refine ⟨fun _ => ⟨[], _, rfl, ?_⟩, fun h => absurd rfl h⟩
      rw [List.foldr_nil, toks_more (t.length + 1) (g + 1) t _ (by omega) (by omega)]
      have hdrop : (s ++ 10 :: t).drop (s.length + 1 + skip false t) = t.drop (skip false t) := by
        rw [List.drop_append, List.drop_of_length_le (by omega), show s.length + 1 + skip false t - s.length = skip false t + 1 by omega]
        rfl
      rw [toks, toks, hk2, hX, hdrop]
      have hA : ∀ m : Nat, at' + (s.length + 1 + m) = at' + s.length + 1 + m := fun m => by omega
      rw [hA]
      by_cases ht : t.length ≤ skip false t
      · rw [if_pos ht, if_pos (by omega)]
      · rw [if_neg ht, if_neg (by omega)]
    · have hlt : skip false s < s.length := by omega
      have hk := (skip_nl s false t).1 hlt
      have hdrop : (s ++ 10 :: t).drop (skip false s) = s.drop (skip false s) ++ 10 :: t := List.drop_append_of_le_length hle
      have hne : s.drop (skip false s) ≠ [] := fun e => by have := congrArg List.length e; simp at this; omega
      obtain ⟨⟨e, tk, n⟩, hc⟩ : ∃ x, cutT (s.drop (skip false s)) = x := ⟨_, rfl⟩
      by_cases h3 : e = 3
      · subst h3
        rw [toks_err hlt hc (by decide)]
        exact ⟨fun h => absurd (show (3 : Nat) = 0 from h) (by decide), fun _ => .inl rfl⟩
      · have hcn : cutT ((s ++ 10 :: t).drop (skip false (s ++ 10 :: t))) = (e, tk, n) := by
          rw [hk, hdrop, cut_nl hne (by rw [hc]; exact h3), hc]
        by_cases he : e = 0
        · subst he
          have hcl := cut_local hc
          rw [List.length_drop] at hcl
          have hd2 : (s.drop (skip false s) ++ 10 :: t).drop n = (s.drop (skip false s)).drop n ++ 10 :: t := List.drop_append_of_le_length (by simp; omega)
          have ih := joins f g ((s.drop (skip false s)).drop n) t (at' + skip false s + n) (by simp; omega) (by simp; omega)
          rw [toks_one hlt hc, toks_one (by omega) hcn, hk, hdrop, hd2]
          have hlen : at' + skip false s + n + ((s.drop (skip false s)).drop n).length + 1 = at' + s.length + 1 := by simp; omega
          rw [hlen] at ih
          refine ⟨fun h => ?_, fun h => ?_⟩
          · obtain ⟨h1, h2⟩ := conT_ok h
            obtain ⟨l, e, hl, hj⟩ := ih.1 h1
            refine ⟨⟨tk.k, tk.s, tk.n, ((at' + skip false s : Nat) : Int)⟩ :: l, e, ?_, by rw [hj, List.foldr_cons]⟩
            rw [h2, hl]
            rfl
          · obtain ⟨h1, h2⟩ := conT_err h
            rw [h1]
            rcases ih.2 h2 with h | h
            · exact .inl h
            · refine .inr ?_
              rw [h]
              exact h1
        · rw [toks_err hlt hc he, toks_err (by omega) hcn he, hk]
          exact ⟨fun h => absurd h he, fun _ => .inr rfl⟩

theorem foldr_conT_err {r : Nat × Int × List Tk} (h : r.1 ≠ 0) : ∀ l : List Tk, l.foldr conT r = r
  | [] => rfl
  | t :: l => by rw [List.foldr_cons, foldr_conT_err h l, conT, if_neg h]

theorem foldr_conT_ok {r : Nat × Int × List Tk} (h : r.1 = 0) (hp : r.2.1 = 0) : ∀ l : List Tk, l.foldr conT r = (0, 0, l ++ r.2.2)
  | [] => by obtain ⟨a, b, c⟩ := r; simp at h hp; simp [h, hp]
  | t :: l => by rw [List.foldr_cons, foldr_conT_ok h hp l, conT]; rfl

/-- How a token is written. -/
def wr (t : Tk) : List UInt8 := if t.k = 3 then Lib.itoa t.n else if t.k = 4 then [39] ++ (dbl t.s ++ [39]) else t.s

theorem dig_in (u : Nat) (h : u < 10) : inS digsB (UInt8.ofNat (48 + u)) = true ∧ (UInt8.ofNat (48 + u)).toNat = 48 + u := by
  refine ⟨?_, by simp; omega⟩
  match u, h with
  | 0, _ => decide
  | 1, _ => decide
  | 2, _ => decide
  | 3, _ => decide
  | 4, _ => decide
  | 5, _ => decide
  | 6, _ => decide
  | 7, _ => decide
  | 8, _ => decide
  | 9, _ => decide

theorem parse_snoc (d : UInt8) (hd : 48 ≤ d.toNat ∧ d.toNat ≤ 57) : ∀ (l : List UInt8) (acc u : Nat), Lib.parseUint10 acc l = .ok u → u < 1844674407370955162 → u * 10 + (d.toNat - 48) < 18446744073709551616 → Lib.parseUint10 acc (l ++ [d]) = .ok (u * 10 + (d.toNat - 48))
  | [], acc, u, h, h1, h2 => by
    simp only [Lib.parseUint10] at h
    injection h with h
    subst h
    simp only [List.nil_append, Lib.parseUint10]
    rw [if_pos hd, if_neg (by omega), if_neg (by omega)]
  | c :: r, acc, u, h, h1, h2 => by
    simp only [Lib.parseUint10] at h
    simp only [List.cons_append, Lib.parseUint10]
    split at h
    · rename_i hc
      rw [if_pos hc]
      split at h
      · cases h
      · rename_i g1
        rw [if_neg g1]
        split at h
        · cases h
        · rename_i g2
          rw [if_neg g2]
          exact parse_snoc d hd r _ u h h1 h2
    · cases h

theorem digits_facts (u : Nat) (h : u < 9223372036854775808) : (∀ c ∈ Lib.decDigits u, inS digsB c = true) ∧ Lib.parseUint10 0 (Lib.decDigits u) = .ok u ∧ Lib.decDigits u ≠ [] ∧ (Lib.decDigits u).length ≤ 19 ∧ (∀ k, u < 10 ^ (k + 1) → (Lib.decDigits u).length ≤ k + 1) := by
  suffices hmain : (∀ c ∈ Lib.decDigits u, inS digsB c = true) ∧ Lib.parseUint10 0 (Lib.decDigits u) = .ok u ∧ Lib.decDigits u ≠ [] ∧ (∀ k, u < 10 ^ (k + 1) → (Lib.decDigits u).length ≤ k + 1) from
    ⟨hmain.1, hmain.2.1, hmain.2.2.1, hmain.2.2.2 18 (by omega), hmain.2.2.2⟩
  induction u using Nat.strongRecOn with
  | _ u ih =>
    by_cases h10 : u < 10
    · have e : Lib.decDigits u = [UInt8.ofNat (48 + u)] := by rw [Lib.decDigits, dif_pos h10]
      obtain ⟨d1, d2⟩ := dig_in u h10
      rw [e]
      refine ⟨by simpa using d1, ?_, by simp, by simp⟩
      simp only [Lib.parseUint10]
      rw [d2, if_pos (by omega), if_neg (by omega), if_neg (by omega)]
      congr 1
      omega
    · have e : Lib.decDigits u = Lib.decDigits (u / 10) ++ [UInt8.ofNat (48 + u % 10)] := by rw [Lib.decDigits, dif_neg h10]
      obtain ⟨i1, i2, i3, i4⟩ := ih (u / 10) (by omega) (by omega)
      obtain ⟨d1, d2⟩ := dig_in (u % 10) (by omega)
      rw [e]
      refine ⟨fun c hc => ?_, ?_, by simp, fun k hk => ?_⟩
      · rcases List.mem_append.1 hc with hc | hc
        · exact i1 c hc
        · rw [List.mem_singleton] at hc; rw [hc]; exact d1
      · rw [parse_snoc _ (by rw [d2]; omega) _ _ _ i2 (by omega) (by rw [d2]; omega), d2]
        congr 1
        omega
      · rw [List.length_append, List.length_cons, List.length_nil]
        match k with
        | 0 => omega
        | k + 1 =>
          have := i4 k (by rw [Nat.pow_succ] at hk; omega)
          omega

theorem atoi_digits (u : Nat) (h : u < 9223372036854775808) : Lib.atoiAll (Lib.decDigits u) = .ok (u : Int) := by
  obtain ⟨h1, h2, h3, _, _⟩ := digits_facts u h
  match hd : Lib.decDigits u, h3 with
  | c :: r, _ =>
    rw [hd] at h1 h2
    have hc := h1 c (by simp)
    have hc2 : ¬ (c.toNat = 43 ∨ c.toNat = 45) ∧ ¬ c.toNat = 45 := by
      simp only [inS, digsB, List.contains_iff_mem, List.mem_cons, List.not_mem_nil, or_false] at hc
      rcases hc with rfl | rfl | rfl | rfl | rfl | rfl | rfl | rfl | rfl | rfl <;> decide
    unfold Lib.atoiAll
    dsimp only
    rw [if_neg hc2.1, Lib.parseMag, if_neg (by simp), h2]
    dsimp only
    rw [if_neg (by omega), if_neg (fun e => hc2.2 e.1), if_neg hc2.2]

theorem txt_dbl (x : List UInt8) (hx : x.head? ≠ some 39) : ∀ s : List UInt8, txt (dbl s ++ 39 :: x) = (s, x, true)
  | [] => by
    match x, hx with
    | [], _ => simp [dbl, txt]
    | d :: x, hx => simp at hx; simp [dbl, txt, hx]
  | c :: s => by
    have ih := txt_dbl x hx s
    by_cases hc : c = 39
    · subst hc
      have e : dbl (39 :: s) = 39 :: 39 :: dbl s := by simp [dbl]
      rw [e]
      simp [txt, ih]
    · have e : dbl (c :: s) = c :: dbl s := by simp [dbl, hc]
      rw [e]
      match hd : dbl s ++ 39 :: x with
      | [] => simp at hd
      | d :: y =>
        rw [List.cons_append, hd]
        rw [hd] at ih
        simp [txt, hc, ih]

/-- What stands behind a token that is written: nothing, a blank. -/
def Gap (x : List UInt8) : Prop := x = [] ∨ ∃ r, x = 32 :: r

theorem Gap.stop {x : List UInt8} (h : Gap x) : Stop x := by
  rcases h with rfl | ⟨r, rfl⟩
  · exact .inl rfl
  · exact .inr ⟨32, r, rfl, by simp⟩

theorem Gap.head {x : List UInt8} (h : Gap x) : x.head? ≠ some 45 := by
  rcases h with rfl | ⟨r, rfl⟩ <;> simp

/-- A TOKEN THAT IS READ AS IT IS WRITTEN. -/
structure GoodT (t : Tk) : Prop where
  k6 : t.k ≠ 6
  len : t.s.length ≤ 40
  n0 : 0 ≤ t.n
  n1 : t.n ≤ 9223372036854775807
  wl : 1 ≤ (wr t).length
  sk : ∀ x, Gap x → skip false (wr t ++ x) = 0
  ct : ∀ x, Gap x → cutT (wr t ++ x) = (0, t.z, (wr t).length)

/-- A number from 0 on. -/
theorem good_num (v p : Int) (h0 : 0 ≤ v) (h1 : v ≤ 9223372036854775807) : GoodT ⟨3, [], v, p⟩ := by
  obtain ⟨u, rfl⟩ : ∃ u : Nat, v = u := ⟨v.toNat, by omega⟩
  obtain ⟨d1, d2, d3, _, _⟩ := digits_facts u (by omega)
  have ha := atoi_digits u (by omega)
  have hw : wr ⟨3, [], (u : Int), p⟩ = Lib.decDigits u := by
    unfold wr
    rw [if_pos rfl]
    unfold Lib.itoa
    rw [if_neg (by simp)]
    simp
  obtain ⟨c, r, hcr⟩ : ∃ c r, Lib.decDigits u = c :: r := by
    match h : Lib.decDigits u, d3 with
    | c :: r, _ => exact ⟨c, r, rfl⟩
  have hc := d1 c (by rw [hcr]; simp)
  have hcs : inS blksB c = false ∧ ¬ c = 45 ∧ ¬ inS lowsB c = true ∧ ¬ inS upsB c = true := by
    simp only [inS, digsB, List.contains_iff_mem, List.mem_cons, List.not_mem_nil, or_false] at hc
    rcases hc with rfl | rfl | rfl | rfl | rfl | rfl | rfl | rfl | rfl | rfl <;> decide
  refine ⟨by show (3 : Int) ≠ 6; decide, Nat.zero_le _, h0, h1, by rw [hw, hcr]; simp, fun x hx => ?_, fun x hx => ?_⟩
  · rw [hw, hcr, List.cons_append, skip, if_neg (by rw [hcs.1]; simp), if_neg (fun e => hcs.2.1 e.1)]
  · rw [hw]
    have hrow := row_append d1 (stop_row hx.stop).2.2.1
    have hh : Lib.decDigits u ++ x = c :: (r ++ x) := by rw [hcr]; rfl
    rw [head_ne_of_append hh, if_neg hcs.2.2.1, if_neg hcs.2.2.2, if_pos hc, cutNumT, hrow, List.drop_left, List.take_left, stop_runs hx.stop, if_neg (by simp), ha]
    rfl

/-- A text of at most 40 bytes. -/
theorem good_text (s : List UInt8) (p : Int) (h : s.length ≤ 40) : GoodT ⟨4, s, 0, p⟩ := by
  have hw : wr ⟨4, s, 0, p⟩ = 39 :: (dbl s ++ [39]) := by
    unfold wr
    rw [if_neg (show ¬ (4 : Int) = 3 by decide), if_pos rfl]
    rfl
  refine ⟨by show (4 : Int) ≠ 6; decide, h, Int.le_refl _, by show (0 : Int) ≤ _; decide, by rw [hw]; simp, fun x hx => ?_, fun x hx => ?_⟩
  · rw [hw, List.cons_append, skip, if_neg (by decide), if_neg (fun e => absurd e.1 (by decide))]
  · rw [hw, show (39 :: (dbl s ++ [39]) : List UInt8) ++ x = 39 :: (dbl s ++ 39 :: x) by simp]
    unfold cutT
    dsimp only
    rw [if_neg (by decide), if_neg (by decide), if_neg (by decide), if_pos (by decide), cutTextT, List.drop_succ_cons, List.drop_zero, txt_dbl x (stop_head hx.stop).2.2 s, textT]
    dsimp only
    rw [if_neg (by omega), if_neg (by simp)]
    simp only [List.length_cons, List.length_append, List.length_nil, Tk.z]
    congr 2
    omega

theorem words_short : ∀ g ∈ wordsB, g.length ≤ 40 := by decide

theorem skip_glue {s x : List UInt8} {n : Nat} (h : skip false s = 0) (h1 : 1 ≤ n) (h2 : n ≤ s.length) (hx : x.head? ≠ some 45) : skip false (s.take n ++ x) = 0 := by
  match s, n, h with
  | c :: r, n + 1, h =>
    rw [skip] at h
    rw [List.take_succ_cons, List.cons_append, skip]
    split at h
    · omega
    · rename_i hb
      split at h
      · omega
      · rename_i hr
        rw [if_neg hb, if_neg]
        rintro ⟨rfl, g2⟩
        cases n with
        | zero => exact hx g2
        | succ n =>
          cases r with
          | nil => exact hx g2
          | cons d r => exact hr ⟨rfl, g2⟩
  | c :: r, 0, _ => omega
  | [], n, _ => simp at h2; omega

/-- A token with its own bytes as text. -/
theorem good_own {s : List UInt8} {t : Tk} {n : Nat} (hs : skip false s = 0) (hc : cutT s = (0, t, n)) (hk : t.k = 1 ∨ t.k = 2 ∨ t.k = 5) (hb : t.s = s.take n) (hl : t.s.length ≤ 40) (hn : t.n = 0) (p : Int) : GoodT ⟨t.k, t.s, t.n, p⟩ := by
  obtain ⟨h1, h2, hp, hloc⟩ := cut_local hc
  have hw : wr ⟨t.k, t.s, t.n, p⟩ = s.take n := by
    unfold wr
    rcases hk with e | e | e <;> simp [e, hb]
  have hl2 : (s.take n).length = n := by rw [List.length_take]; omega
  have hz : (⟨t.k, t.s, t.n, p⟩ : Tk).z = t := by
    obtain ⟨a, b, c, d⟩ := t
    simp only at hp
    subst hp
    rfl
  refine ⟨by show t.k ≠ 6; omega, hl, by show 0 ≤ t.n; omega, by show t.n ≤ _; omega, by rw [hw, hl2]; exact h1, fun x hx => ?_, fun x hx => ?_⟩
  · rw [hw]; exact skip_glue hs h1 h2 hx.head
  · rw [hw, hl2, hz]; exact hloc x hx.stop

/-- EVERY TOKEN THAT WAS CUT IS GOOD. -/
theorem good_cut {s : List UInt8} {t : Tk} {n : Nat} (hs : skip false s = 0) (h : cutT s = (0, t, n)) (p : Int) : GoodT ⟨t.k, t.s, t.n, p⟩ := by
  have h0 := h
  match s, hs, h with
  | [], hs, h => simp [cutT] at h
  | c :: r, hs, h =>
    unfold cutT at h
    dsimp only at h
    by_cases hl : inS lowsB c = true
    · rw [if_pos hl] at h
      unfold cutNameT at h
      have h2 := row_le (inS nameB) (c :: r)
      split at h
      · cases h
      · split at h
        · cases h
        · rename_i g1 g2
          cases h
          exact good_own hs h0 (.inl rfl) rfl (by rw [List.length_take]; omega) rfl p
    · rw [if_neg hl] at h
      by_cases hu : inS upsB c = true
      · rw [if_pos hu] at h
        unfold cutWordT at h
        split at h
        · cases h
        · split at h
          · cases h
          · rename_i g1 g2
            cases h
            exact good_own hs h0 (.inr (.inl rfl)) rfl (words_short _ (by simpa using g2)) rfl p
      · rw [if_neg hu] at h
        by_cases hd : inS digsB c = true
        · rw [if_pos hd] at h
          unfold cutNumT at h
          split at h
          · cases h
          · have hhead : (c :: r).take (row (inS digsB) (c :: r)) = c :: r.take (row (inS digsB) r) := by rw [row_cons_pos hd, List.take_succ_cons]
            rw [hhead] at h
            have hc2 : ¬ c.toNat = 45 := by
              simp only [inS, digsB, List.contains_iff_mem, List.mem_cons, List.not_mem_nil, or_false] at hd
              rcases hd with rfl | rfl | rfl | rfl | rfl | rfl | rfl | rfl | rfl | rfl <;> decide
            cases ha : Lib.atoiAll (c :: r.take (row (inS digsB) r)) with
            | ok v =>
              rw [ha] at h
              cases h
              unfold Lib.atoiAll at ha
              dsimp only at ha
              split at ha
              · cases ha
              · cases ha
              · rename_i u _
                split at ha
                · cases ha
                · rename_i g
                  rw [if_neg (fun e => hc2 e.1)] at ha
                  try rw [if_neg hc2] at ha
                  injection ha with ha
                  subst ha
                  exact good_num (u : Int) p (by omega) (by have : ¬ 9223372036854775808 ≤ u := fun e => g ⟨hc2, e⟩; omega)
            | «syntax» => rw [ha] at h; cases h
            | range => rw [ha] at h; cases h
        · rw [if_neg hd] at h
          by_cases hq : inS [39] c = true
          · rw [if_pos hq] at h
            unfold cutTextT textT at h
            split at h
            · cases h
            · rename_i g1
              split at h
              · cases h
              · cases h
                exact good_text _ p (Nat.le_of_not_lt g1)
          · rw [if_neg hq, sign_eq] at h
            have hu2 := signH_used h
            have hb := signH_bytes h
            exact good_own hs h0 (.inr (.inr hu2.2.1)) hb (by rw [hb, List.length_take]; omega) hu2.2.2.1 p

/-- All tokens but the end are good. -/
theorem toks_good : ∀ (f : Nat) (s : List UInt8) (at' : Nat), s.length < f → (toks f s at').1 = 0 → ∃ l, (toks f s at').2.2 = l ++ [⟨6, [], 0, ((at' + s.length : Nat) : Int)⟩] ∧ l.length ≤ s.length ∧ ∀ t ∈ l, GoodT t
  | f + 1, s, at', hf, h => by
    rcases toks_ok h with ⟨hl, e⟩ | ⟨t, n, hlt, hc, h1, e⟩
    · rw [e, ← hl]; exact ⟨[], rfl, by simp, by simp⟩
    · have hcl := cut_local hc
      have hd : (s.drop (skip false s)).length = s.length - skip false s := by simp
      obtain ⟨l, hl, hle, hg⟩ := toks_good f ((s.drop (skip false s)).drop n) (at' + skip false s + n) (by simp; omega) h1
      rw [e, hl]
      refine ⟨⟨t.k, t.s, t.n, ((at' + skip false s : Nat) : Int)⟩ :: l, ?_, by simp at hle ⊢; omega, fun x hx => ?_⟩
      · have ee : at' + skip false s + n + ((s.drop (skip false s)).drop n).length = at' + s.length := by simp at hcl ⊢; omega
        rw [ee]
        rfl
      · rcases List.mem_cons.1 hx with rfl | hx
        · exact good_cut (skip_drop s false) hc _
        · exact hg x hx

def endZ : Tk := ⟨6, [], 0, 0⟩

theorem gap_tail (l : List Tk) : Gap (Lib.joinTail [32] (l.map wr)) := by
  cases l with
  | nil => exact .inl rfl
  | cons t l => exact .inr ⟨_, rfl⟩

theorem back_tail : ∀ (l : List Tk), (∀ t ∈ l, GoodT t) → ∀ (f at' : Nat), (Lib.joinTail [32] (l.map wr)).length < f → ∃ l', toks f (Lib.joinTail [32] (l.map wr)) at' = (0, 0, l') ∧ l'.map Tk.z = l.map Tk.z ++ [endZ]
  | [], _, f + 1, at', _ => ⟨_, toks_end (by simp [Lib.joinTail]), rfl⟩
  | t :: l, hg, f + 1, at', hf => by
    have gt := hg t (by simp)
    have hgap := gap_tail l
    have e : Lib.joinTail [32] ((t :: l).map wr) = 32 :: (wr t ++ Lib.joinTail [32] (l.map wr)) := by simp [Lib.joinTail]
    rw [e] at hf ⊢
    have hsk : skip false (32 :: (wr t ++ Lib.joinTail [32] (l.map wr))) = 1 := by
      rw [skip, if_pos (by decide), gt.sk _ hgap]
    have hct := gt.ct _ hgap
    obtain ⟨l', h1, h2⟩ := back_tail l (fun x hx => hg x (by simp [hx])) f (at' + 1 + (wr t).length) (by simp at hf ⊢; omega)
    have h0 := toks_one (f := f) (s := 32 :: (wr t ++ Lib.joinTail [32] (l.map wr))) (at' := at') (t := t.z) (n := (wr t).length) (by rw [hsk]; have := gt.wl; simp; omega) (by rw [hsk]; exact hct)
    rw [hsk] at h0
    rw [show ((32 :: (wr t ++ Lib.joinTail [32] (l.map wr))).drop 1).drop (wr t).length = Lib.joinTail [32] (l.map wr) by simp, h1] at h0
    refine ⟨_, h0, ?_⟩
    simp [h2, Tk.z]

/-- WHAT WAS WRITTEN IS CUT INTO THE SAME TOKENS. -/
theorem back (l : List Tk) (hg : ∀ t ∈ l, GoodT t) (hlen : (Lib.join (l.map wr) [32]).length ≤ 2000) : ∃ l', tokens (Lib.join (l.map wr) [32]) = (0, 0, l') ∧ l'.map Tk.z = l.map Tk.z ++ [endZ] := by
  unfold tokens
  rw [if_neg (by omega)]
  match l, hg with
  | [], _ => exact ⟨_, toks_end (by simp [Lib.join_nil]), rfl⟩
  | t :: l, hg =>
    have gt := hg t (by simp)
    have hgap := gap_tail l
    rw [List.map_cons, Lib.join_cons] at hlen ⊢
    have hsk := gt.sk _ hgap
    have hct := gt.ct _ hgap
    obtain ⟨l', h1, h2⟩ := back_tail l (fun x hx => hg x (by simp [hx])) (wr t ++ Lib.joinTail [32] (l.map wr)).length (0 + 0 + (wr t).length) (by have := gt.wl; simp; omega)
    have h0 := toks_one (f := (wr t ++ Lib.joinTail [32] (l.map wr)).length) (s := wr t ++ Lib.joinTail [32] (l.map wr)) (at' := 0) (t := t.z) (n := (wr t).length) (by rw [hsk]; have := gt.wl; simp; omega) (by rw [hsk, List.drop_zero]; exact hct)
    rw [hsk, List.drop_zero, List.drop_left, h1] at h0
    refine ⟨_, h0, ?_⟩
    simp [h2, Tk.z]

end Go.Proofs.YtokfphfgcjbpkaaGreatDoor
