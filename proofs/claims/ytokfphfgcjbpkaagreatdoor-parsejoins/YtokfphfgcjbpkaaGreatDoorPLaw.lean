/- Plain: what follows of the grammar: blanks, scripts joined, brackets, what stands behind a script. -/
import Derived.Test.YtokfphfgcjbpkaaGreatDoorPTop
import Derived.Test.YtokfphfgcjbpkaaGreatDoorLBackL
import Derived.Test.YtokfphfgcjbpkaaGreatDoorLJoinL
namespace Go.Proofs.YtokfphfgcjbpkaaGreatDoor
set_option linter.unusedVariables false
set_option linter.unusedSimpArgs false

theorem simB_end {dl : Nat} {T : List Tk} {r r' : Rd} (h : SimB dl T r r') (hk : (nowR r).k = 6) : r'.ts = T ∧ r'.bad = 0 ∧ r'.d = r.d + dl := by
  obtain ⟨L, e, L', h1, h2, h3, h4, h5, h6, h7, h8⟩ := h
  cases L with
  | nil =>
    have : L' = [] := by simpa using h5.symm
    subst this
    exact ⟨h4, h8, h6⟩
  | cons a L =>
    have n1 : nowR r = a := by unfold nowR; rw [if_pos h7, h1]; rfl
    rw [n1] at hk
    exact absurd hk (h3 a (by simp))

theorem semi_eq (r : Rd) : semiP r = (isR [59] r, skipR [59] r) := skipP_eq _ _

theorem skip_bad {t : List UInt8} {r : Rd} : (skipR t r).bad = r.bad := by
  unfold skipR
  split <;> rfl

/-- A list that ends well: its next step was well. -/
theorem list_step {F : Nat} {α : Type} {one : Pa α} (n1 : Nice false F one) {m : Nat} {acc : List α} {r : Rd} {a : List α} {r1 : Rd} (h : listL one semiP (m + 1) acc r = (a, r1)) (hb : r1.bad = 0) :
    (one r).2.bad = 0 ∧ ((isR [59] (one r).2 = true ∧ listL one semiP m (acc ++ [(one r).1]) (nextR (one r).2) = (a, r1)) ∨ (isR [59] (one r).2 = false ∧ a = acc ++ [(one r).1] ∧ r1 = (one r).2)) := by
  rw [listL_one, semi_eq] at h
  dsimp only at h
  cases hi : isR [59] (one r).2 with
  | true =>
    rw [hi, if_pos rfl, show skipR [59] (one r).2 = nextR (one r).2 from if_pos hi] at h
    exact ⟨is_ok hi, .inl ⟨rfl, h⟩⟩
  | false =>
    rw [hi, if_neg Bool.false_ne_true, show skipR [59] (one r).2 = (one r).2 from if_neg (by rw [hi]; exact Bool.false_ne_true)] at h
    simp only [Prod.mk.injEq] at h
    exact ⟨by rw [h.2]; exact hb, .inr ⟨rfl, h.1.symm, h.2.symm⟩⟩

/-- Where the other reader has something else than the end, it comes there with the same elements. -/
theorem list_there {F : Nat} {α : Type} {one : Pa α} (n1 : Nice true F one) (n0 : Nice false F one) {T : List Tk} (hT : Tail T) : ∀ (m : Nat) (acc : List α) (r r' : Rd) (a : List α) (r1 : Rd), SimB 0 T r r' → listL one semiP m acc r = (a, r1) → r1.bad = 0 → (nowR r1).k = 6 →
    ∃ (m' : Nat) (acc' : List α) (q : Rd), listL one semiP m acc r' = listL one semiP (m' + 1) acc' q ∧ a = acc' ++ [(one q).1] ∧ (one q).2.ts = T ∧ (one q).2.bad = 0 ∧ (one q).2.d = r1.d ∧ m' + 1 + acc'.length = m + acc.length
  | 0, acc, r, r', a, r1, hs, h, hb, hk => by
    rw [listL_zero] at h
    simp only [Prod.mk.injEq] at h
    obtain ⟨L, e, L', _, _, _, _, _, _, h7, _⟩ := hs
    rw [← h.2, fail_ok h7] at hb
    exact absurd hb (by decide)
  | m + 1, acc, r, r', a, r1, hs, h, hb, hk => by
    obtain ⟨hb2, hc⟩ := list_step n0 h hb
    rcases n1.simB rfl 0 T r r' hT hs hb2 with ⟨_, h0⟩ | ⟨hx, hs2⟩
    · exact absurd h0 (by decide)
    · rcases hc with ⟨hi, h2⟩ | ⟨hi, h2, h3⟩
      · have hk6 := kind6 hi
        rcases simB_cases hT hs2 with ⟨k1, _⟩ | ⟨_, k2, k3, _⟩
        · exact absurd k1 hk6
        · obtain ⟨e1, e2, _⟩ := z_eq k2
          have hi' : isR [59] (one r').2 = true := by unfold isR at hi ⊢; rw [← e1, ← e2]; exact hi
          obtain ⟨m', acc', q, g1, g2, g3, g4, g5, g6⟩ := list_there n1 n0 hT m (acc ++ [(one r).1]) _ _ a r1 k3 h2 hb hk
          refine ⟨m', acc', q, ?_, g2, g3, g4, g5, by simp at g6; omega⟩
          rw [listL_one, semi_eq, hi', if_pos rfl]
          dsimp only
          rw [show skipR [59] (one r').2 = nextR (one r').2 from if_pos hi', ← hx]
          exact g1
      · rw [h3] at hk
        obtain ⟨g1, g2, g3⟩ := simB_end hs2 hk
        exact ⟨m, acc, r', rfl, by rw [h2, hx], g1, g2, by rw [g3, h3]; simp, rfl⟩

/-- How many there are room for. -/
theorem list_room {F : Nat} {α : Type} {one : Pa α} (n0 : Nice false F one) : ∀ (m : Nat) (acc : List α) (r : Rd) (a : List α) (r1 : Rd), listL one semiP m acc r = (a, r1) → r1.bad = 0 →
    ∃ c, a = acc ++ c ∧ 1 ≤ c.length ∧ c.length ≤ m ∧ ∀ (m' : Nat) (acc' : List α), (c.length ≤ m' → listL one semiP m' acc' r = (acc' ++ c, r1)) ∧ (m' < c.length → (listL one semiP m' acc' r).1 = [] ∧ (listL one semiP m' acc' r).2.bad = 2)
  | 0, acc, r, a, r1, h, hb => by
    rw [listL_zero] at h
    simp only [Prod.mk.injEq] at h
    by_cases e : r.bad = 0
    · rw [← h.2, fail_ok e] at hb
      exact absurd hb (by decide)
    · rw [← h.2, fail_bad e] at hb
      exact absurd hb e
  | m + 1, acc, r, a, r1, h, hb => by
    obtain ⟨hb2, hc⟩ := list_step n0 h hb
    have hr : r.bad = 0 := by
      by_cases e : r.bad = 0
      · exact e
      · rw [(n0.mono r e).1] at hb2; exact absurd hb2 e
    rcases hc with ⟨hi, h2⟩ | ⟨hi, h2, h3⟩
    · obtain ⟨c, e1, e2, e3, e4⟩ := list_room n0 m _ _ a r1 h2 hb
      refine ⟨(one r).1 :: c, by rw [e1]; simp, by simp, by simp; omega, fun m' acc' => ?_⟩
      cases m' with
      | zero => exact ⟨fun hl => by simp at hl, fun _ => by rw [listL_zero]; exact ⟨rfl, fail_ok hr 2⟩⟩
      | succ m' =>
        obtain ⟨f1, f2⟩ := e4 m' (acc' ++ [(one r).1])
        rw [listL_one, semi_eq, hi, if_pos rfl]
        dsimp only
        rw [show skipR [59] (one r).2 = nextR (one r).2 from if_pos hi]
        exact ⟨fun hl => by rw [f1 (by simp at hl; omega)]; simp, fun hl => f2 (by simp at hl; omega)⟩
    · refine ⟨[(one r).1], h2, by simp, by simp, fun m' acc' => ?_⟩
      cases m' with
      | zero => exact ⟨fun hl => by simp at hl, fun _ => by rw [listL_zero]; exact ⟨rfl, fail_ok hr 2⟩⟩
      | succ m' =>
        rw [listL_one, semi_eq, hi, if_neg Bool.false_ne_true]
        dsimp only
        rw [show skipR [59] (one r).2 = (one r).2 from if_neg (by rw [hi]; exact Bool.false_ne_true), h3]
        exact ⟨fun _ => rfl, fun hl => by simp at hl⟩

/-- The statements' list. -/
abbrev stmsL : Nat → List St → Pa (List St) := listL (stateP (exprP 2001)) semiP

theorem nice_st {b : Bool} : Nice b 2001 (stateP (exprP 2001)) := nice_state nice_expr

theorem script_eq (r : Rd) : scriptP 2001 r = ((stmsL 8 [] r).1, (endP (stmsL 8 [] r).2).2) := rfl

theorem end_ok {r : Rd} (h : (endP r).2.bad = 0) : r.bad = 0 ∧ (nowR r).k = 6 := by
  rw [end_eq] at h
  split at h
  · rename_i hk; exact ⟨h, hk⟩
  · by_cases e : r.bad = 0
    · rw [fail_ok e] at h; exact absurd h (by decide)
    · rw [fail_bad e] at h; exact absurd h e

/-- A script that is well. -/
theorem script_ok {s : List UInt8} (h : (scriptA s).2.1 = 0) : ∃ r1, stmsL 8 [] (startR s) = ((scriptA s).1, r1) ∧ r1.bad = 0 ∧ (nowR r1).k = 6 ∧ (scriptA s).2.2 = 0 ∧ (tokens s).1 = 0 ∧ r1.d = 0 := by
  unfold scriptA at h ⊢
  by_cases hb : (scriptP 2001 (startR s)).2.bad = 0
  · rw [if_pos hb]
    rw [script_eq] at hb
    obtain ⟨e1, e2⟩ := end_ok hb
    refine ⟨(stmsL 8 [] (startR s)).2, by rw [script_eq], e1, e2, rfl, ?_, ?_⟩
    · by_cases e : (startR s).bad = 0
      · have : ((tokens s).1 : Int) = 0 := e
        omega
      · have := (nice_states (F := 2001)).mono (startR s) e
        rw [show listL (stateP (exprP 2001)) semiP 8 [] = stmsL 8 [] from rfl, e1] at this
        exact absurd this.1.symm e
    · exact ((nice_states (F := 2001)).fine (startR s) trivial (start_good s)).2.1
  · rw [if_neg hb] at h
    exact absurd h hb

/-- A script that is not well has no statement. -/
theorem script_bad {s : List UInt8} (h : (scriptA s).2.1 ≠ 0) : (scriptA s).1 = [] := by
  unfold scriptA at h ⊢
  by_cases hb : (scriptP 2001 (startR s)).2.bad = 0
  · rw [if_pos hb] at h; exact absurd rfl h
  · rw [if_neg hb]

theorem script_fault {s : List UInt8} {e : Int} (he : e ≠ 0) (h : (endP (stmsL 8 [] (startR s)).2).2.bad = e) : scriptA s = ([], e, (endP (stmsL 8 [] (startR s)).2).2.bp) := by
  unfold scriptA
  rw [script_eq, if_neg (by rw [h]; exact he)]
  dsimp only
  rw [h]

theorem script_fine {s : List UInt8} {l : List St} {r1 : Rd} (h : stmsL 8 [] (startR s) = (l, r1)) (hb : r1.bad = 0) (hk : (nowR r1).k = 6) : scriptA s = (l, 0, 0) := by
  have e : (endP r1).2 = r1 := by rw [end_eq, if_pos hk]
  unfold scriptA
  rw [script_eq, h]
  dsimp only
  rw [e, if_pos hb]

/-- Two sources with a byte 10 between. -/
theorem tokens_join {s t : List UInt8} (h : (tokens s).1 = 0) (hlen : s.length + 1 + t.length ≤ 2000) (ht : (toks (t.length + 1) t (s.length + 1)).1 = 0) :
    ∃ L, (tokens s).2.2 = L ++ [⟨6, [], 0, (s.length : Int)⟩] ∧ (∀ x ∈ L, x.k ≠ 6) ∧ tokens (s ++ 10 :: t) = (0, 0, L ++ (toks (t.length + 1) t (s.length + 1)).2.2) := by
  obtain ⟨_, _, L, hL, _, hg⟩ := tokens_good h
  have e : tokens s = toks (s.length + 1) s 0 := by rw [tokens, if_neg (by omega)]
  have hX : (s ++ 10 :: t).length = s.length + 1 + t.length := by simp; omega
  have e' : tokens (s ++ 10 :: t) = toks ((s ++ 10 :: t).length + 1) (s ++ 10 :: t) 0 := by rw [tokens, if_neg (by omega)]
  obtain ⟨l, x, h1, h2⟩ := (joins (s.length + 1) ((s ++ 10 :: t).length + 1) s t 0 (by omega) (by omega)).1 (by rw [← e]; exact h)
  rw [Nat.zero_add] at h2
  rw [← e, hL] at h1
  have hl : L = l := (List.append_inj' h1 rfl).1
  refine ⟨L, hL, fun x hx => (hg x hx).k6, ?_⟩
  rw [e', h2, foldr_conT_ok ht ((toks_form _ _ _).2 ht), hl]

/-- The reader of the joined sources goes beside the first one's. -/
theorem start_sim {s t : List UInt8} {T : List Tk} (h : (tokens s).1 = 0) (hlen : s.length + 1 + t.length ≤ 2000) (ht : toks (t.length + 1) t (s.length + 1) = (0, 0, T)) : SimB 0 T (startR s) (startR (s ++ 10 :: t)) := by
  obtain ⟨L, hL, hk, hj⟩ := tokens_join h hlen (by rw [ht])
  rw [ht] at hj
  have e2 : (tokens (s ++ 10 :: t)).1 = 0 := by rw [hj]
  refine ⟨L, _, L, hL, rfl, hk, by unfold startR; rw [hj], rfl, by unfold startR; simp, ?_, ?_⟩
  · show ((tokens s).1 : Int) = 0; omega
  · show ((tokens (s ++ 10 :: t)).1 : Int) = 0; omega

theorem toks_close (n : Nat) : toks 3 [41, 32] n = (0, 0, [⟨5, [41], 0, (n : Int)⟩, ⟨6, [], 0, ((n + 2 : Nat) : Int)⟩]) := rfl
theorem toks_semi (n : Nat) : toks 2 [59] n = (0, 0, [⟨5, [59], 0, (n : Int)⟩, ⟨6, [], 0, ((n + 1 : Nat) : Int)⟩]) := rfl

theorem choose_end {l : List (List UInt8 × Int)} {r : Rd} (hk : (nowR r).k = 6) : chooseP l r = (0, r) := by
  induction l with
  | nil => rfl
  | cons c l ih =>
    have hi : isR c.1 r = false := by unfold isR; rw [hk]; rfl
    unfold chooseP ifP
    rw [if_neg (by rw [hi]; exact Bool.false_ne_true)]
    exact ih

/-- Where the end stands no statement begins. -/
theorem state_end {ex : Pa Ex} {r : Rd} (hk : (nowR r).k = 6) : (stateP ex r).2 = failR 4 r := by
  rw [state_at ex (choose_end hk)]
  rfl

theorem end_bad {r : Rd} (h : r.bad ≠ 0) : (endP r).2 = r := by
  rw [end_eq, now_bad h, if_neg (by decide), fail_bad h]

theorem semi_bad {r : Rd} (h : r.bad ≠ 0) : semiP r = (false, r) := by
  rw [semi_eq, is_bad h]
  unfold skipR
  rw [is_bad h, if_neg Bool.false_ne_true]

/-- ParseEmpty's plain part. -/
theorem empty_plain {s : List UInt8} (h : (scriptA s).2.1 = 0) (hl : s.length ≤ 1980) :
    1 ≤ (scriptA s).1.length ∧ (scriptA s).1.length ≤ 8 ∧ scriptA (s ++ [10, 41, 32]) = ([], 4, ((s.length + 1 : Nat) : Int)) ∧
    ∃ c, scriptA (s ++ [10, 59]) = ([], c, ((s.length + 2 : Nat) : Int)) ∧ (c = 4 ∨ (c = 2 ∧ (scriptA s).1.length = 8)) := by
  obtain ⟨r1, h1, hb, hk, _, ht, hd⟩ := script_ok h
  obtain ⟨c, hc, hc1, hc2, _⟩ := list_room (nice_st (b := false)) 8 [] _ _ r1 h1 hb
  rw [List.nil_append] at hc
  rw [← hc] at hc1 hc2
  refine ⟨hc1, hc2, ?_, ?_⟩
  · have hs := start_sim (t := [41, 32]) ht (by simp; omega) (toks_close (s.length + 1))
    obtain ⟨m', acc', q, g1, g2, g3, g4, g5, g6⟩ := list_there (nice_st (b := true)) (nice_st (b := false)) ⟨_, _, rfl, rfl, .inr rfl⟩ 8 [] _ _ _ r1 hs h1 hb hk
    have hn : nowR (stateP (exprP 2001) q).2 = ⟨5, [41], 0, ((s.length + 1 : Nat) : Int)⟩ := by unfold nowR; rw [if_pos g4, g3]; rfl
    have hi : isR [59] (stateP (exprP 2001) q).2 = false := by unfold isR; rw [hn]; rfl
    have hL : stmsL 8 [] (startR (s ++ [10, 41, 32])) = ((scriptA s).1, (stateP (exprP 2001) q).2) := by
      show listL (stateP (exprP 2001)) semiP 8 [] (startR (s ++ 10 :: [41, 32])) = _
      rw [g1, listL_one, semi_eq, hi, if_neg Bool.false_ne_true]
      dsimp only
      rw [show skipR [59] (stateP (exprP 2001) q).2 = (stateP (exprP 2001) q).2 from if_neg (by rw [hi]; exact Bool.false_ne_true), g2]
    have hE : (endP (stateP (exprP 2001) q).2).2 = failR 4 (stateP (exprP 2001) q).2 := by rw [end_eq, hn, if_neg (show ¬ ((5 : Int) = 6) by decide)]
    rw [script_fault (e := 4) (by decide) (by rw [hL, hE]; exact fail_ok g4 4), hL, hE]
    unfold failR
    rw [if_pos g4, hn]
  · have hs := start_sim (t := [59]) ht (by simp; omega) (toks_semi (s.length + 1))
    obtain ⟨m', acc', q, g1, g2, g3, g4, g5, g6⟩ := list_there (nice_st (b := true)) (nice_st (b := false)) ⟨_, _, rfl, rfl, .inl rfl⟩ 8 [] _ _ _ r1 hs h1 hb hk
    have hn : nowR (stateP (exprP 2001) q).2 = ⟨5, [59], 0, ((s.length + 1 : Nat) : Int)⟩ := by unfold nowR; rw [if_pos g4, g3]; rfl
    have hi : isR [59] (stateP (exprP 2001) q).2 = true := by unfold isR; rw [hn]; rfl
    have hL : stmsL 8 [] (startR (s ++ [10, 59])) = stmsL m' (scriptA s).1 (nextR (stateP (exprP 2001) q).2) := by
      show listL (stateP (exprP 2001)) semiP 8 [] (startR (s ++ 10 :: [59])) = _
      rw [g1, listL_one, semi_eq, hi, if_pos rfl]
      dsimp only
      rw [show skipR [59] (stateP (exprP 2001) q).2 = nextR (stateP (exprP 2001) q).2 from if_pos hi, g2]
    have hq : (nextR (stateP (exprP 2001) q).2).bad = 0 := g4
    have hqn : nowR (nextR (stateP (exprP 2001) q).2) = ⟨6, [], 0, ((s.length + 2 : Nat) : Int)⟩ := by
      unfold nowR
      rw [if_pos hq]
      show (stateP (exprP 2001) q).2.ts.tail.headD zTk = _
      rw [g3]
      rfl
    generalize nextR (stateP (exprP 2001) q).2 = p at hL hq hqn
    have hlen : (scriptA s).1.length = acc'.length + 1 := by rw [g2]; simp
    cases m' with
    | zero =>
      refine ⟨2, ?_, .inr ⟨rfl, by simp at g6; omega⟩⟩
      have hL0 : stmsL 8 [] (startR (s ++ [10, 59])) = ([], failR 2 p) := hL
      have hfb : (failR 2 p).bad = 2 := fail_ok hq 2
      have hE := end_bad (r := failR 2 p) (by rw [hfb]; decide)
      rw [script_fault (e := 2) (by decide) (by rw [hL0]; dsimp only; rw [hE]; exact hfb), hL0]
      dsimp only
      rw [hE]
      unfold failR
      rw [if_pos hq, hqn]
    | succ m' =>
      refine ⟨4, ?_, .inl rfl⟩
      have hse := state_end (ex := exprP 2001) (r := p) (by rw [hqn])
      have hfb : (failR 4 p).bad = 4 := fail_ok hq 4
      have hL0 : (stmsL 8 [] (startR (s ++ [10, 59]))).2 = failR 4 p := by
        rw [hL]
        show (listL (stateP (exprP 2001)) semiP (m' + 1) _ p).2 = _
        rw [listL_one, hse, semi_bad (by rw [hfb]; decide), if_neg Bool.false_ne_true]
      have hE := end_bad (r := failR 4 p) (by rw [hfb]; decide)
      rw [script_fault (e := 4) (by decide) (by rw [hL0, hE]; exact hfb), hL0, hE]
      unfold failR
      rw [if_pos hq, hqn]

end Go.Proofs.YtokfphfgcjbpkaaGreatDoor
