/- Plain: scripts joined, blanks, brackets. -/
import Derived.Test.YtokfphfgcjbpkaaGreatDoorPLaw
namespace Go.Proofs.YtokfphfgcjbpkaaGreatDoor
set_option linter.unusedVariables false
set_option linter.unusedSimpArgs false

/-! Scripts joined. -/

/-- A source behind a sign ; and a byte 10. -/
theorem toks_semi_nl (t : List UInt8) (n : Nat) : toks (t.length + 3) (59 :: 10 :: t) n = conT ⟨5, [59], 0, (n : Int)⟩ (toks (t.length + 1) t (n + 2)) := by
  have h0 : skip false (59 :: 10 :: t) = 0 := rfl
  have hc : cutT (59 :: 10 :: t) = (0, ⟨5, [59], 0, 0⟩, 1) := rfl
  have h1 := toks_one (f := t.length + 2) (s := 59 :: 10 :: t) (at' := n) (t := ⟨5, [59], 0, 0⟩) (n := 1) (by rw [h0]; simp) (by rw [h0, List.drop_zero]; exact hc)
  rw [h0, List.drop_zero] at h1
  have hj := (joins 1 (t.length + 2) [] t (n + 1) (by simp) (by simp)).1 rfl
  obtain ⟨l, e, hl, hj⟩ := hj
  have hl0 : l = [] := by
    have hl' : ([⟨6, [], 0, ((n + 1 + 0 : Nat) : Int)⟩] : List Tk) = l ++ [e] := hl
    cases l with
    | nil => rfl
    | cons a l => cases l <;> simp at hl'
  rw [hl0, List.foldr_nil] at hj
  rw [h1]
  exact congrArg (conT _) hj

/-- ParseJoins' plain part. -/
theorem joins9_plain {s t : List UInt8} (hs : (scriptA s).2.1 = 0) (ht : (scriptA t).2.1 = 0) (hlen : s.length + 3 + t.length ≤ 2000) :
    ((scriptA s).1.length + (scriptA t).1.length ≤ 8 → scriptA (s ++ 10 :: 59 :: 10 :: t) = ((scriptA s).1 ++ (scriptA t).1, 0, 0)) ∧
    (8 < (scriptA s).1.length + (scriptA t).1.length → (scriptA (s ++ 10 :: 59 :: 10 :: t)).1 = [] ∧ (scriptA (s ++ 10 :: 59 :: 10 :: t)).2.1 = 2) := by
  obtain ⟨r1, h1, hb, hk, _, hts, hd⟩ := script_ok hs
  obtain ⟨r2, h2, hb2, hk2, _, htt, hd2⟩ := script_ok ht
  -- the second source's tokens, at their place
  have et : tokens t = toks (t.length + 1) t 0 := by rw [tokens, if_neg (by omega)]
  have hsh := toks_shift (t.length + 1) t 0 (s.length + 1 + 2)
  rw [Nat.zero_add] at hsh
  have hk0 : (toks (t.length + 1) t (s.length + 1 + 2)).1 = 0 := by rw [hsh.1, ← et]; exact htt
  obtain ⟨TT, hTT⟩ : ∃ TT, (toks (t.length + 1) t (s.length + 1 + 2)).2.2 = TT := ⟨_, rfl⟩
  have hz : TT.map Tk.z = (tokens t).2.2.map Tk.z := by rw [← hTT, et]; exact hsh.2.2
  have hT : toks ((59 :: 10 :: t).length + 1) (59 :: 10 :: t) (s.length + 1) = (0, 0, ⟨5, [59], 0, ((s.length + 1 : Nat) : Int)⟩ :: TT) := by
    show toks (t.length + 3) (59 :: 10 :: t) (s.length + 1) = _
    rw [toks_semi_nl]
    unfold conT
    rw [if_pos hk0, hTT]
  have hsim := start_sim (t := 59 :: 10 :: t) hts (by simp; omega) hT
  obtain ⟨m', acc', q, g1, g2, g3, g4, g5, g6⟩ := list_there (nice_st (b := true)) (nice_st (b := false)) ⟨_, _, rfl, rfl, .inl rfl⟩ 8 [] _ _ _ r1 hsim h1 hb hk
  have hn : nowR (stateP (exprP 2001) q).2 = ⟨5, [59], 0, ((s.length + 1 : Nat) : Int)⟩ := by unfold nowR; rw [if_pos g4, g3]; rfl
  have hi : isR [59] (stateP (exprP 2001) q).2 = true := by unfold isR; rw [hn]; rfl
  have hL : stmsL 8 [] (startR (s ++ 10 :: 59 :: 10 :: t)) = stmsL m' (scriptA s).1 (nextR (stateP (exprP 2001) q).2) := by
    show listL (stateP (exprP 2001)) semiP 8 [] (startR (s ++ 10 :: 59 :: 10 :: t)) = _
    rw [g1, listL_one, semi_eq, hi, if_pos rfl]
    dsimp only
    rw [show skipR [59] (stateP (exprP 2001) q).2 = nextR (stateP (exprP 2001) q).2 from if_pos hi, g2]
  have hqb : (nextR (stateP (exprP 2001) q).2).bad = 0 := g4
  have hqt : (nextR (stateP (exprP 2001) q).2).ts = TT := by show (stateP (exprP 2001) q).2.ts.tail = _; rw [g3]; rfl
  have hqd : (nextR (stateP (exprP 2001) q).2).d = 0 := by show (stateP (exprP 2001) q).2.d = 0; rw [g5, hd]
  generalize nextR (stateP (exprP 2001) q).2 = p at hL hqb hqt hqd
  have hlen8 : m' + (scriptA s).1.length = 8 := by
    have : (scriptA s).1.length = acc'.length + 1 := by rw [g2]; simp
    simp at g6
    omega
  have hA : SimA (startR t) p := ⟨by rw [hqt]; exact hz.symm, by rw [hqd]; rfl, by rw [hqb]; show ((tokens t).1 : Int) = 0; omega⟩
  obtain ⟨v1, v2⟩ := (nice_list (b := false) nice_st nice_semi m' (scriptA s).1).simA _ _ hA
  obtain ⟨c, hc, _, _, hroom⟩ := list_room (nice_st (b := false)) 8 [] _ _ r2 h2 hb2
  rw [List.nil_append] at hc
  rw [hc]
  obtain ⟨f1, f2⟩ := hroom m' (scriptA s).1
  refine ⟨fun hle => ?_, fun hgt => ?_⟩
  · have f := f1 (by omega)
    rw [f] at v1 v2
    have e1 : stmsL 8 [] (startR (s ++ 10 :: 59 :: 10 :: t)) = ((scriptA s).1 ++ c, (stmsL m' (scriptA s).1 p).2) := by rw [hL]; exact Prod.ext v1.symm rfl
    refine script_fine e1 ?_ ?_
    · have := v2.2.2
      exact this.symm.trans hb2
    · have := (z_eq (simA_now v2)).1
      exact this.symm.trans hk2
  · obtain ⟨w1, w2⟩ := f2 (by omega)
    have hb3 : (stmsL m' (scriptA s).1 p).2.bad = 2 := v2.2.2.symm.trans w2
    have hE := end_bad (r := (stmsL m' (scriptA s).1 p).2) (by rw [hb3]; decide)
    have := script_fault (s := s ++ 10 :: 59 :: 10 :: t) (e := 2) (by decide) (by rw [hL, hE]; exact hb3)
    rw [this]
    exact ⟨rfl, rfl⟩

/-! Blanks. -/

theorem simA_start {s t : List UInt8} (h1 : (tokens s).1 = 0) (h2 : (tokens t).1 = 0) (hz : (tokens s).2.2.map Tk.z = (tokens t).2.2.map Tk.z) : SimA (startR s) (startR t) :=
  ⟨hz, rfl, by show ((tokens s).1 : Int) = ((tokens t).1 : Int); omega⟩

/-- ParseBlanks' plain part. -/
theorem blanks_plain {s t : List UInt8} (h : SimA (startR s) (startR t)) : (scriptA s).1 = (scriptA t).1 ∧ (scriptA s).2.1 = (scriptA t).2.1 ∧ (oneA s).1 = (oneA t).1 ∧ (oneA s).2.1 = (oneA t).2.1 := by
  obtain ⟨a1, a2⟩ := (nice_script (F := 2001)).simA _ _ h
  obtain ⟨b1, b2⟩ := (nice_one (F := 2001)).simA _ _ h
  unfold scriptA oneA
  rw [a1, a2.2.2, b1, b2.2.2]
  refine ⟨?_, ?_, ?_, ?_⟩ <;> split <;> rfl

/-! Brackets. -/

theorem one_eq (r : Rd) : oneP 2001 r = ((exprP 2001 r).1, (endP (exprP 2001 r).2).2) := rfl

theorem one_ok {s : List UInt8} (h : (oneA s).2.1 = 0) : ∃ r1, exprP 2001 (startR s) = ((oneA s).1, r1) ∧ r1.bad = 0 ∧ (nowR r1).k = 6 ∧ (oneA s).2.2 = 0 ∧ (tokens s).1 = 0 ∧ r1.d = 0 := by
  unfold oneA at h ⊢
  by_cases hb : (oneP 2001 (startR s)).2.bad = 0
  · rw [if_pos hb]
    rw [one_eq] at hb
    obtain ⟨e1, e2⟩ := end_ok hb
    refine ⟨(exprP 2001 (startR s)).2, by rw [one_eq], e1, e2, rfl, ?_, ?_⟩
    · by_cases e : (startR s).bad = 0
      · have : ((tokens s).1 : Int) = 0 := e
        omega
      · have := (nice_expr (b := false) (F := 2001)).mono (startR s) e
        rw [e1] at this
        exact absurd this.1.symm e
    · exact ((nice_expr (b := false) (F := 2001)).fine (startR s) trivial (start_good s)).2.1
  · rw [if_neg hb] at h
    exact absurd h hb

/-- A row of operators at the end: there is none. -/
theorem row_end {F : Nat} {p : Pa Ex} {ops : List (List UInt8 × Int)} {r q : Rd} {e : Ex} (h : p r = (e, q)) (hk : (nowR q).k = 6) : rowP F p ops r = (e, q) := by
  show rowL p ops F (p r).1 (p r).2 = _
  rw [h]
  cases F with
  | zero => rfl
  | succ f =>
    show (if (chooseP ops q).1 = 0 then retP e else bindP p fun x => rowL p ops f (exOp (chooseP ops q).1 e x)) (chooseP ops q).2 = _
    rw [choose_end hk, if_pos rfl]
    rfl

theorem is_end {r : Rd} {t : List UInt8} (hk : (nowR r).k = 6) : isR t r = false := by unfold isR; rw [hk]; rfl

theorem test_end {p : Pa Ex} {r q : Rd} {e : Ex} (h : p r = (e, q)) (hk : (nowR q).k = 6) : testP p r = (e, q) := by
  have := test_none (sum := p) (r := r) (q := q) (by rw [h]; exact is_end hk) (by rw [h]; exact choose_end hk)
  rw [this, h]

/-- An expression that is one factor, and no more. -/
theorem expr_factor {n : Nat} {r q : Rd} {e : Ex} (hn : isR [78, 79, 84] r = false) (h : factorP (lev 2001 n).fc (lev 2001 n).ex r = (e, q)) (hk : (nowR q).k = 6) : (lev 2001 (n + 1)).ex r = (e, q) := by
  have h1 : termP 2001 (lev 2001 n) r = (e, q) := row_end h hk
  have h2 : sumP 2001 (lev 2001 n) r = (e, q) := row_end h1 hk
  have h3 : testP (sumP 2001 (lev 2001 n)) r = (e, q) := test_end h2 hk
  have h4 : notQ 2001 (lev 2001 n) r = (e, q) := by
    show notP _ _ r = _
    rw [not_no hn]
    exact h3
  have h5 : andP 2001 (lev 2001 n) r = (e, q) := row_end h4 hk
  exact row_end h5 hk

/-- If a row's first part goes wrong, so does the row. -/
theorem bad_row {F : Nat} {p : Pa Ex} {ops : List (List UInt8 × Int)} (hN : Nice false F p) {r : Rd} (h : (p r).2.bad = 10) (f : Nat) : (rowP f p ops r).2.bad = 10 := by
  show (rowL p ops f (p r).1 (p r).2).2.bad = 10
  rw [((nice_rowL (b := false) hN (fun e => by cases e) f (p r).1).mono _ (by rw [h]; decide)).1, h]

theorem bad_expr {n : Nat} {r : Rd} (hn : isR [78, 79, 84] r = false) (h : (factorP (lev 2001 n).fc (lev 2001 n).ex r).2.bad = 10) : ((lev 2001 (n + 1)).ex r).2.bad = 10 := by
  have hN := nice_lev (b := false) (F := 2001) n
  have hNf := nice_factor hN.fc hN.ex
  have h1 : (termP 2001 (lev 2001 n) r).2.bad = 10 := bad_row hNf h 2001
  have h2 : (sumP 2001 (lev 2001 n) r).2.bad = 10 := bad_row (nice_term hN) h1 2001
  have h3 : (testP (sumP 2001 (lev 2001 n)) r).2.bad = 10 := by
    have hb : (sumP 2001 (lev 2001 n) r).2.bad ≠ 0 := by rw [h2]; decide
    have := test_none (sum := sumP 2001 (lev 2001 n)) (r := r) (q := (sumP 2001 (lev 2001 n) r).2) (is_bad hb _) (by
      have hc := choose_none cmpsB (sumP 2001 (lev 2001 n) r).2 (by decide)
      by_cases e : (chooseP cmpsB (sumP 2001 (lev 2001 n) r).2).1 = 0
      · exact Prod.ext e (hc e)
      · exact absurd (choose_lt cmpsB _ e).2.1 hb)
    rw [this]
    exact h2
  have h4 : (notQ 2001 (lev 2001 n) r).2.bad = 10 := by
    show (notP _ _ r).2.bad = _
    rw [not_no hn]
    exact h3
  have h5 : (andP 2001 (lev 2001 n) r).2.bad = 10 := bad_row (nice_notQ hN) h4 2001
  exact bad_row (nice_and hN) h5 2001

/-- ParseBrackets' plain part. -/
theorem brackets_plain {s : List UInt8} (h : (oneA s).2.1 = 0) (hl : s.length ≤ 1996) : (oneA (40 :: (s ++ [10, 41]))).2.1 = 10 ∨ ((oneA (40 :: (s ++ [10, 41]))).2.1 = 0 ∧ (oneA (40 :: (s ++ [10, 41]))).1 = (oneA s).1) := by
  obtain ⟨r1, h1, hb, hk, _, hts, hd⟩ := one_ok h
  -- the tokens of the source in brackets
  have es : tokens s = toks (s.length + 1) s 0 := by rw [tokens, if_neg (by omega)]
  have hX : (40 :: (s ++ [10, 41])).length = s.length + 3 := by simp
  have eb : tokens (40 :: (s ++ [10, 41])) = toks (s.length + 3 + 1) (40 :: (s ++ [10, 41])) 0 := by rw [tokens, hX, if_neg (by omega)]
  have h0 : skip false (40 :: (s ++ [10, 41])) = 0 := rfl
  have hc : cutT (40 :: (s ++ [10, 41])) = (0, ⟨5, [40], 0, 0⟩, 1) := rfl
  have ho := toks_one (f := s.length + 3) (s := 40 :: (s ++ [10, 41])) (at' := 0) (t := ⟨5, [40], 0, 0⟩) (n := 1) (by rw [h0]; simp) (by rw [h0, List.drop_zero]; exact hc)
  rw [h0, List.drop_zero] at ho
  have hsh := toks_shift (s.length + 1) s 0 1
  have hk0 : (toks (s.length + 1) s (0 + 1)).1 = 0 := by rw [hsh.1, ← es]; exact hts
  obtain ⟨l, e, hle, hj⟩ := (joins (s.length + 1) (s.length + 3) s [41] (0 + 1) (by omega) (by simp)).1 hk0
  have hcl : toks 2 [41] (0 + 1 + s.length + 1) = (0, 0, [⟨5, [41], 0, ((0 + 1 + s.length + 1 : Nat) : Int)⟩, ⟨6, [], 0, ((0 + 1 + s.length + 1 + 1 : Nat) : Int)⟩]) := rfl
  have hcl' : toks (([41] : List UInt8).length + 1) [41] (0 + 1 + s.length + 1) = (0, 0, [⟨5, [41], 0, ((0 + 1 + s.length + 1 : Nat) : Int)⟩, ⟨6, [], 0, ((0 + 1 + s.length + 1 + 1 : Nat) : Int)⟩]) := hcl
  rw [hcl', foldr_conT_ok rfl rfl] at hj
  have hbt : tokens (40 :: (s ++ [10, 41])) = (0, 0, ⟨5, [40], 0, 0⟩ :: (l ++ [⟨5, [41], 0, ((0 + 1 + s.length + 1 : Nat) : Int)⟩, ⟨6, [], 0, ((0 + 1 + s.length + 1 + 1 : Nat) : Int)⟩])) := by
    rw [eb, ho]
    have hdr : (40 :: (s ++ [10, 41])).drop 1 = s ++ 10 :: [41] := rfl
    rw [hdr]
    have hj' : toks (s.length + 3) (s ++ 10 :: [41]) (0 + 0 + 1) = _ := hj
    rw [hj']
    rfl
  obtain ⟨T, hT⟩ : ∃ T : List Tk, T = [⟨5, [41], 0, ((0 + 1 + s.length + 1 : Nat) : Int)⟩, ⟨6, [], 0, ((0 + 1 + s.length + 1 + 1 : Nat) : Int)⟩] := ⟨_, rfl⟩
  rw [← hT] at hbt
  have hTail : Tail T := ⟨_, _, hT, rfl, .inr rfl⟩
  -- the reader ahead of the bracket, and behind it
  obtain ⟨r0, hr0⟩ : ∃ r0, startR (40 :: (s ++ [10, 41])) = r0 := ⟨_, rfl⟩
  have e0 : r0 = ⟨⟨5, [40], 0, 0⟩ :: (l ++ T), 0, 0, 0⟩ := by rw [← hr0]; unfold startR; rw [hbt]; rfl
  have hG0 : Good 2001 r0 := by rw [← hr0]; exact start_good _
  have hn0 : nowR r0 = ⟨5, [40], 0, 0⟩ := by rw [e0]; rfl
  have ho0 : isR [40] r0 = true := by unfold isR; rw [hn0]; rfl
  have hm0 : isR [45] r0 = false := by unfold isR; rw [hn0]; rfl
  have hnt0 : isR [78, 79, 84] r0 = false := by unfold isR; rw [hn0]; rfl
  have hnx : nextR r0 = ⟨l ++ T, 0, 0, 0⟩ := by rw [e0]; rfl
  have hdn : downR (nextR r0) = ⟨l ++ T, 1, 0, 0⟩ := by rw [hnx]; rfl
  -- the two readers side by side
  obtain ⟨_, _, L, hL, _, hg⟩ := tokens_good hts
  have hlz : L.map Tk.z = l.map Tk.z := by
    have := hsh.2.2
    rw [← es, hL, hle] at this
    simp only [List.map_append, List.map_cons, List.map_nil] at this
    exact ((List.append_inj' this rfl).1).symm
  have hsim : SimB 1 T (startR s) (downR (nextR r0)) := by
    rw [hdn]
    refine ⟨L, _, l, hL, rfl, fun x hx => (hg x hx).k6, rfl, hlz, rfl, ?_, rfl⟩
    show ((tokens s).1 : Int) = 0
    omega
  have hagr := (agr_lev (F := 2001) 11).2.2
  have hGn : Good 2001 (nextR r0) := hG0.next (is_ok ho0) (kind6 ho0)
  have hbn : (nextR r0).bad = 0 := is_ok (r := r0) ho0
  have hGd := (hGn.down hbn).1
  have hsame : (lev 2001 11).ex (downR (nextR r0)) = exprP 2001 (downR (nextR r0)) := hagr _ trivial hGd ⟨fun _ => by rw [hdn]; show (12 : Int) ≤ 1 + ((11 : Nat) : Int); decide, by decide⟩
  have hfac := fact_open (fc := (lev 2001 11).fc) (ex := (lev 2001 11).ex) (r := r0) (by rw [hn0]; decide) hm0 ho0
  have hdp : deepP (lev 2001 11).ex (nextR r0) = ((exprP 2001 (downR (nextR r0))).1, upR (exprP 2001 (downR (nextR r0))).2) := by unfold deepP; rw [hsame]
  rw [hdp] at hfac
  dsimp only at hfac
  have hE : exprP 2001 (startR (40 :: (s ++ [10, 41]))) = (lev 2001 (11 + 1)).ex r0 := by rw [hr0]; rfl
  rcases (nice_expr (b := true) (F := 2001)).simB rfl 1 T _ _ hTail hsim (by rw [h1]; exact hb) with ⟨h10, _⟩ | ⟨hx, hs2⟩
  · left
    have hbu : (upR (exprP 2001 (downR (nextR r0))).2).bad = 10 := h10
    have hbf : (factorP (lev 2001 11).fc (lev 2001 11).ex r0).2.bad = 10 := by
      rw [hfac]
      dsimp only
      rw [((nice_musts (b := false) (F := 2001) [[41]]).mono _ (by rw [hbu]; decide)).1, hbu]
    have hbx := bad_expr hnt0 hbf
    rw [← hE] at hbx
    have hbe := end_bad (r := (exprP 2001 (startR (40 :: (s ++ [10, 41])))).2) (by rw [hbx]; decide)
    unfold oneA
    rw [one_eq]
    dsimp only
    rw [hbe, hbx, if_neg (by decide)]
  · right
    rw [h1] at hx hs2
    dsimp only at hx hs2
    obtain ⟨z1, z2, z3⟩ := simB_end hs2 hk
    have hq : upR (exprP 2001 (downR (nextR r0))).2 = ⟨T, 0, 0, (exprP 2001 (downR (nextR r0))).2.bp⟩ := by
      have : ∀ q : Rd, q.ts = T → q.bad = 0 → q.d = r1.d + 1 → upR q = ⟨T, 0, 0, q.bp⟩ := fun q a b c => by
        obtain ⟨t1, t2, t3, t4⟩ := q
        dsimp only at a b c
        subst a b
        unfold upR
        rw [c, hd]
        rfl
      exact this _ z1 z2 z3
    rw [hq] at hfac
    have hmu : (mustsP [[41]] ⟨T, 0, 0, (exprP 2001 (downR (nextR r0))).2.bp⟩).2 = ⟨[⟨6, [], 0, ((0 + 1 + s.length + 1 + 1 : Nat) : Int)⟩], 0, 0, (exprP 2001 (downR (nextR r0))).2.bp⟩ := by
      rw [hT]
      rfl
    rw [hmu] at hfac
    have hxx := expr_factor hnt0 hfac rfl
    rw [← hE] at hxx
    have hbe : (endP (⟨[⟨6, [], 0, ((0 + 1 + s.length + 1 + 1 : Nat) : Int)⟩], 0, 0, (exprP 2001 (downR (nextR r0))).2.bp⟩ : Rd)).2 = ⟨[⟨6, [], 0, ((0 + 1 + s.length + 1 + 1 : Nat) : Int)⟩], 0, 0, (exprP 2001 (downR (nextR r0))).2.bp⟩ := rfl
    unfold oneA
    rw [one_eq, hxx]
    dsimp only
    rw [hbe, if_pos rfl]
    exact ⟨rfl, hx.symm⟩

end Go.Proofs.YtokfphfgcjbpkaaGreatDoor
