/- Packed for the hand-in: WStm LWrite -/
import Derived.Test.YtnidnipiihhnaaaGreatDoorY08
import Derived.Test.YtnidnipiihhnaaaGreatDoorY06
namespace Go.Proofs.YtnidnipiihhnaaaGreatDoor
set_option linter.unusedSimpArgs false
set_option linter.unusedVariables false
set_option maxHeartbeats 8000000
def Tm.mkNot : Tm → Tm
  | .nul x => .nnul x
  | t => .not t
def tmE : Ex → Tm
  | .mk k op tb nm v xs =>
    if k = 1 then .val v else if k = 2 then .col tb nm else
    match xs with
    | [a] => if k = 4 then (tmE a).mkNot else if k = 5 then .neg (tmE a) else .nul (tmE a)
    | [a, b] => .op op (tmE a) (tmE b)
    | _ => .val zV
termination_by e => SizeOf.sizeOf e
decreasing_by all_goals (simp_wf; omega)
theorem tmE_ex (t : Tm) (h : t.ok) : tmE t.ex = t := by
  induction t with
  | val v => show tmE (.mk 1 0 [] [] v []) = _; simp [tmE]
  | col a b => show tmE (.mk 2 0 a b zV []) = _; simp [tmE]
  | op o a b ha hb => show tmE (.mk 3 o [] [] zV [a.ex, b.ex]) = _; rw [tmE, ha h.2.2.1, hb h.2.2.2]; rfl
  | not a ha =>
    show tmE (.mk 4 0 [] [] zV [a.ex]) = _
    rw [tmE, ha h.2]
    have hn := h.1
    cases a with
    | nul x => cases hn
    | _ => rfl
  | neg a ha => show tmE (.mk 5 0 [] [] zV [a.ex]) = _; rw [tmE, ha h]; rfl
  | nul a ha => show tmE (.mk 6 0 [] [] zV [a.ex]) = _; rw [tmE, ha h]; rfl
  | nnul a ha =>
    show tmE (.mk 4 0 [] [] zV [.mk 6 0 [] [] zV [a.ex]]) = _
    rw [tmE, tmE, ha h]; rfl
def rightE : Ex → Bool
  | .mk k op tb nm v xs =>
    if k = 1 then valOk v && (decide (op = 0) && decide (tb = []) && decide (nm = []) && decide (xs.length = 0))
    else if k = 2 then (nameOk nm && (decide (tb = []) || nameOk tb)) && (decide (op = 0) && eqv v zV && decide (xs.length = 0))
    else if k = 3 then (decide (1 ≤ op ∧ op ≤ 13) && (decide (xs.length = 2) && xs.attach.all fun x => rightE x.1)) && (decide (tb = []) && decide (nm = []) && eqv v zV)
    else if k = 4 ∨ k = 5 ∨ k = 6 then (decide (xs.length = 1) && xs.attach.all fun x => rightE x.1) && (decide (op = 0) && decide (tb = []) && decide (nm = []) && eqv v zV)
    else false
termination_by e => SizeOf.sizeOf e
decreasing_by all_goals (simp_wf; have := List.sizeOf_lt_of_mem x.2; omega)
theorem all_attach {α : Type} (xs : List α) (p : α → Bool) : (xs.attach.all fun x => p x.1) = xs.all p := by
  rw [Bool.eq_iff_iff, List.all_eq_true, List.all_eq_true]
  exact ⟨fun h x hx => h ⟨x, hx⟩ (List.mem_attach _ _), fun h x _ => h x.1 x.2⟩
theorem rightE_eq (k op : Int) (tb nm : List UInt8) (v : Vl) (xs : List Ex) : rightE (.mk k op tb nm v xs) =
    if k = 1 then valOk v && (decide (op = 0) && decide (tb = []) && decide (nm = []) && decide (xs.length = 0))
    else if k = 2 then (nameOk nm && (decide (tb = []) || nameOk tb)) && (decide (op = 0) && eqv v zV && decide (xs.length = 0))
    else if k = 3 then (decide (1 ≤ op ∧ op ≤ 13) && (decide (xs.length = 2) && xs.all rightE)) && (decide (tb = []) && decide (nm = []) && eqv v zV)
    else if k = 4 ∨ k = 5 ∨ k = 6 then (decide (xs.length = 1) && xs.all rightE) && (decide (op = 0) && decide (tb = []) && decide (nm = []) && eqv v zV)
    else false := by
  rw [rightE, all_attach]
theorem eqv_zV : eqv zV zV = true := by decide
theorem right_tm (t : Tm) (h : t.ok) : rightE t.ex = true := by
  induction t with
  | val v =>
    show rightE (.mk 1 0 [] [] v []) = true
    rw [rightE_eq, if_pos rfl, show valOk v = true from h]; rfl
  | col a b =>
    show rightE (.mk 2 0 a b zV []) = true
    rw [rightE_eq, if_neg (by decide), if_pos rfl, h.1]
    rcases h.2 with h2 | h2
    · subst h2; rfl
    · rw [h2, Bool.or_true]; rfl
  | op o a b ha hb =>
    show rightE (.mk 3 o [] [] zV [a.ex, b.ex]) = true
    rw [rightE_eq, if_neg (by decide), if_neg (by decide), if_pos rfl, decide_eq_true (⟨h.1, h.2.1⟩ : 1 ≤ o ∧ o ≤ 13)]
    simp [ha h.2.2.1, hb h.2.2.2, eqv_zV]
  | not a ha =>
    show rightE (.mk 4 0 [] [] zV [a.ex]) = true
    rw [rightE_eq, if_neg (by decide), if_neg (by decide), if_neg (by decide), if_pos (by decide)]
    simp [ha h.2, eqv_zV]
  | neg a ha =>
    show rightE (.mk 5 0 [] [] zV [a.ex]) = true
    rw [rightE_eq, if_neg (by decide), if_neg (by decide), if_neg (by decide), if_pos (by decide)]
    simp [ha h, eqv_zV]
  | nul a ha =>
    show rightE (.mk 6 0 [] [] zV [a.ex]) = true
    rw [rightE_eq, if_neg (by decide), if_neg (by decide), if_neg (by decide), if_pos (by decide)]
    simp [ha h, eqv_zV]
  | nnul a ha =>
    show rightE (.mk 4 0 [] [] zV [.mk 6 0 [] [] zV [a.ex]]) = true
    rw [rightE_eq, if_neg (by decide), if_neg (by decide), if_neg (by decide), if_pos (by decide)]
    simp [rightE_eq, ha h, eqv_zV]
theorem right_has : ∀ (n : Nat) (e : Ex), SizeOf.sizeOf e < n → rightE e = true → ∃ t : Tm, t.ok ∧ t.ex = e
  | n + 1, .mk k op tb nm v xs, hn, h => by
    rw [rightE_eq] at h
    split at h
    · rename_i h1
      simp only [Bool.and_eq_true, decide_eq_true_eq] at h
      obtain ⟨hv, ⟨⟨h2, h3⟩, h4⟩, h5⟩ := h
      obtain rfl : xs = [] := List.eq_nil_of_length_eq_zero h5
      subst h1 h2 h3 h4
      exact ⟨.val v, hv, rfl⟩
    · split at h
      · rename_i h1
        simp only [Bool.and_eq_true, Bool.or_eq_true, decide_eq_true_eq] at h
        obtain ⟨⟨hnn, ht⟩, ⟨h2, h3⟩, h4⟩ := h
        obtain rfl : xs = [] := List.eq_nil_of_length_eq_zero h4
        obtain rfl := eqv_iff.1 h3
        subst h1 h2
        exact ⟨.col tb nm, ⟨hnn, ht⟩, rfl⟩
      · split at h
        · rename_i h1
          simp only [Bool.and_eq_true, decide_eq_true_eq] at h
          obtain ⟨⟨ho, hl, ha⟩, ⟨h2, h3⟩, h4⟩ := h
          obtain rfl := eqv_iff.1 h4
          match xs, hl with
          | [a, b], _ =>
            simp only [List.all_cons, List.all_nil, Bool.and_true, Bool.and_eq_true] at ha
            obtain ⟨ta, oka, ea⟩ := right_has n a (by simp at hn; omega) ha.1
            obtain ⟨tb', okb, eb⟩ := right_has n b (by simp at hn; omega) ha.2
            subst h1 h2 h3
            exact ⟨.op op ta tb', ⟨ho.1, ho.2, oka, okb⟩, by rw [← ea, ← eb]; rfl⟩
        · split at h
          · rename_i h1
            simp only [Bool.and_eq_true, decide_eq_true_eq] at h
            obtain ⟨⟨hl, ha⟩, ⟨⟨h2, h3⟩, h4⟩, h5⟩ := h
            obtain rfl := eqv_iff.1 h5
            match xs, hl with
            | [a], _ =>
              simp only [List.all_cons, List.all_nil, Bool.and_true] at ha
              obtain ⟨ta, oka, ea⟩ := right_has n a (by simp at hn; omega) ha
              subst h2 h3 h4
              rcases h1 with rfl | rfl | rfl
              · cases hN : ta.isNul with
                | false => exact ⟨.not ta, ⟨hN, oka⟩, by rw [← ea]; rfl⟩
                | true =>
                  cases ta with
                  | nul x => exact ⟨.nnul x, oka, by rw [← ea]; rfl⟩
                  | _ => cases hN
              · exact ⟨.neg ta, oka, by rw [← ea]; rfl⟩
              · exact ⟨.nul ta, oka, by rw [← ea]; rfl⟩
          · cases h
theorem right_ok {e : Ex} (h : rightE e = true) : (tmE e).ok ∧ (tmE e).ex = e := by
  obtain ⟨t, h1, h2⟩ := right_has (SizeOf.sizeOf e + 1) e (Nat.lt_succ_self _) h
  rw [← h2, tmE_ex t h1]
  exact ⟨h1, rfl⟩
def exK (e : Ex) : List Tk := (tmE e).tk
def exD (e : Ex) : Nat := (tmE e).dp
def exZ (e : Ex) : Nat := (tmE e).sz
def sepK (sep : Tk) : List (List Tk) → List Tk
  | [] => []
  | x :: l => x ++ l.flatMap fun y => sep :: y
theorem sepK_snoc (sep : Tk) (l : List (List Tk)) (y : List Tk) : sepK sep (l ++ [y]) = if l = [] then y else sepK sep l ++ sep :: y := by
  cases l with
  | nil => simp [sepK]
  | cons x l => simp [sepK, List.flatMap_append]
def wordsK (l : List (List UInt8)) : List Tk := l.map fxT
def partK (xs : List Ex) (ws : List (List UInt8)) : List Tk := xs.flatMap fun e => wordsK ws ++ exK e
def maxL (l : List Nat) : Nat := l.foldr max 0
def exDs (l : List Ex) : Nat := maxL (l.map exD)
def colK (c : Co) : List Tk := nmT c.nm :: fxT (if c.k = 1 then [73, 78, 84] else [84, 69, 88, 84]) :: ((if c.nn = true then wordsK [[78, 79, 84], [78, 85, 76, 76]] else []) ++ (if c.uq = true then wordsK [[85, 78, 73, 81, 85, 69]] else []))
def vrowK (r : List Vl) : List Tk := fxT [40] :: (sepK (fxT [44]) (r.map litK) ++ [fxT [41]])
def setK (s : Se) : List Tk := nmT s.nm :: fxT [61] :: exK s.e
def itW (k : Int) : List UInt8 := if k = 4 then [67, 79, 85, 78, 84] else if k = 5 then [83, 85, 77] else if k = 6 then [77, 73, 78] else [77, 65, 88]
def itK (i : It) : List Tk := if i.k = 1 then [fxT [42]] else if i.k = 2 then exK (i.xs.headD zEx) else if i.k = 3 then wordsK [[67, 79, 85, 78, 84], [40], [42], [41]] else wordsK [itW i.k, [40]] ++ (exK (i.xs.headD zEx) ++ [fxT [41]])
def itD (i : It) : Nat := exDs i.xs
def selK (s : St) : List Tk :=
  fxT [83, 69, 76, 69, 67, 84] :: (sepK (fxT [44]) (s.items.map itK) ++ fxT [70, 82, 79, 77] :: nmT s.tb :: ((if s.jn = [] then [] else [fxT [74, 79, 73, 78], nmT s.jn]) ++ (partK s.on [[79, 78]] ++ (partK s.wh [[87, 72, 69, 82, 69]] ++ (partK s.gr [[71, 82, 79, 85, 80], [66, 89]] ++ (partK s.od [[79, 82, 68, 69, 82], [66, 89]] ++ ((if s.desc = true then [fxT [68, 69, 83, 67]] else []) ++ (if s.lim = -1 then [] else [fxT [76, 73, 77, 73, 84], nuT s.lim]))))))))
def crK (s : St) : List Tk :=
  wordsK [[67, 82, 69, 65, 84, 69], [84, 65, 66, 76, 69]] ++ nmT s.tb :: fxT [40] :: (sepK (fxT [44]) (s.cols.map colK) ++ (wordsK [[44], [80, 82, 73, 77, 65, 82, 89], [75, 69, 89], [40]] ++ nmT s.prim :: wordsK [[41], [41]]))
def tkS (s : St) : List Tk :=
  if s.k = 1 then crK s
  else if s.k = 2 then wordsK [[68, 82, 79, 80], [84, 65, 66, 76, 69]] ++ [nmT s.tb]
  else if s.k = 3 then wordsK [[73, 78, 83, 69, 82, 84], [73, 78, 84, 79]] ++ nmT s.tb :: fxT [86, 65, 76, 85, 69, 83] :: sepK (fxT [44]) (s.rows.map vrowK)
  else if s.k = 4 then fxT [85, 80, 68, 65, 84, 69] :: nmT s.tb :: fxT [83, 69, 84] :: (sepK (fxT [44]) (s.sets.map setK) ++ partK s.wh [[87, 72, 69, 82, 69]])
  else if s.k = 5 then wordsK [[68, 69, 76, 69, 84, 69], [70, 82, 79, 77]] ++ nmT s.tb :: partK s.wh [[87, 72, 69, 82, 69]]
  else selK s
def dpS (s : St) : Nat :=
  if s.k = 4 then max (maxL (s.sets.map fun x => exD x.e)) (exDs s.wh)
  else if s.k = 5 then exDs s.wh
  else if s.k = 6 then max (maxL (s.items.map itD)) (max (exDs s.on) (max (exDs s.wh) (max (exDs s.gr) (exDs s.od))))
  else 0
def areB {α : Type} (xs : List α) (a b : Nat) (p : α → Bool) : Bool := decide (a ≤ xs.length ∧ xs.length ≤ b) && xs.all p
def colB (c : Co) : Bool := nameOk c.nm && decide (c.k = 1 ∨ c.k = 2)
def rowB (r : List Vl) : Bool := areB r 1 8 valOk
def setB (s : Se) : Bool := nameOk s.nm && rightE s.e
def exKind : Ex → Int
  | .mk k _ _ _ _ _ => k
def colEB (e : Ex) : Bool := decide (exKind e = 2) && rightE e
def itB (i : It) : Bool := if i.k = 1 ∨ i.k = 3 then decide (i.xs.length = 0) else if i.k = 2 ∨ i.k = 4 ∨ i.k = 5 ∨ i.k = 6 ∨ i.k = 7 then areB i.xs 1 1 rightE else false
def noeB (s : List UInt8) : Bool := decide (s = []) || nameOk s
def joinN (s : List UInt8) : Nat := if s = [] then 0 else 1
def selB (s : St) : Bool :=
  areB s.items 1 8 itB && (noeB s.jn && (areB s.on (joinN s.jn) (joinN s.jn) rightE && (areB s.wh 0 1 rightE && (areB s.gr 0 1 colEB && (areB s.od 0 1 colEB && ((!s.desc || decide (s.od.length = 1)) && decide (-1 ≤ s.lim ∧ s.lim ≤ 9223372036854775807)))))))
def empS (s : St) : Bool := decide (s.k = 0 ∧ s.tb = [] ∧ s.cols.length = 0 ∧ s.prim = [] ∧ s.rows.length = 0 ∧ s.sets.length = 0 ∧ s.items.length = 0 ∧ s.jn = [] ∧ s.on.length = 0 ∧ s.wh.length = 0 ∧ s.gr.length = 0 ∧ s.od.length = 0 ∧ s.desc = false ∧ s.lim = -1)
def restS (s : St) : St :=
  if s.k = 1 then { s with k := 0, tb := [], cols := [], prim := [] }
  else if s.k = 3 then { s with k := 0, tb := [], rows := [] }
  else if s.k = 4 then { s with k := 0, tb := [], sets := [], wh := [] }
  else if s.k = 5 then { s with k := 0, tb := [], wh := [] }
  else if s.k = 6 then { s with k := 0, tb := [], items := [], jn := [], on := [], wh := [], gr := [], od := [], desc := false, lim := -1 }
  else { s with k := 0, tb := [] }
def kindB (s : St) : Bool :=
  if s.k = 1 then areB s.cols 1 8 colB && nameOk s.prim
  else if s.k = 2 then true
  else if s.k = 3 then areB s.rows 1 16 rowB
  else if s.k = 4 then areB s.sets 1 8 setB && areB s.wh 0 1 rightE
  else if s.k = 5 then areB s.wh 0 1 rightE
  else if s.k = 6 then selB s
  else false
def rightS (s : St) : Bool := kindB s && (nameOk s.tb && empS (restS s))
end Go.Proofs.YtnidnipiihhnaaaGreatDoor
namespace Go.Proofs.YtnidnipiihhnaaaGreatDoor
open Go.RowKit Go.Shelf
set_option linter.unusedSimpArgs false
set_option linter.unusedVariables false
set_option maxRecDepth 20000
set_option maxHeartbeats 8000000
def OkT (t : Tk) : Prop := t.s.length ≤ 40 ∧ 0 ≤ t.n ∧ t.n ≤ 9223372036854775807
theorem wr_le {t : Tk} (h : OkT t) : (wr t).length ≤ 100 := by
  obtain ⟨h1, h2, h3⟩ := h
  unfold wr
  split
  · unfold Lib.itoa
    rw [if_neg (by omega)]
    have := (digits_facts t.n.toNat (by omega)).2.2.2.1
    omega
  · split
    · have := dbl_le t.s
      simp
      omega
    · omega
theorem joinTail_le : ∀ ps : List (List UInt8), (∀ p ∈ ps, p.length ≤ 100) → (Lib.joinTail [32] ps).length ≤ 101 * ps.length
  | [], _ => by simp [Lib.joinTail]
  | p :: ps, h => by
    have ih := joinTail_le ps (fun q hq => h q (by simp [hq]))
    have hp := h p (by simp)
    have e : Lib.joinTail [32] (p :: ps) = 32 :: (p ++ Lib.joinTail [32] ps) := by simp [Lib.joinTail]
    rw [e]
    simp
    omega
theorem join_le (ps : List (List UInt8)) (h : ∀ p ∈ ps, p.length ≤ 100) : (Lib.join ps [32]).length ≤ 101 * ps.length := by
  cases ps with
  | nil => simp [Lib.join_nil]
  | cons p ps =>
    rw [Lib.join_cons]
    have := joinTail_le ps (fun q hq => h q (by simp [hq]))
    have hp := h p (by simp)
    simp
    omega
def scs (ps : List (List UInt8)) : List Value := ps.map fun l => .string (str8 l)
def wrs (l : List Tk) : List (List UInt8) := (l.filter fun t => t.k != 6).map wr
theorem wrs_snoc (l : List Tk) (t : Tk) : wrs (l ++ [t]) = if t.k = 6 then wrs l else wrs l ++ [wr t] := by
  unfold wrs
  rw [List.filter_append]
  by_cases h : t.k = 6
  · simp [h]
  · simp [h]
theorem wrs_len (l : List Tk) : (wrs l).length ≤ l.length := by
  unfold wrs
  rw [List.length_map]
  exact List.length_filter_le _ _
theorem take_snocL {α : Type} (xs : List α) (k : Nat) (x : α) (h : xs[k]? = some x) : xs.take (k + 1) = xs.take k ++ [x] := by
  obtain ⟨hk, e⟩ := List.getElem?_eq_some_iff.1 h
  rw [List.take_succ_eq_append_getElem hk, e]
theorem Tryz.infoStr : (Tryz.prog.info? 9).map (fun i => (i.zero, i.size, i.bytes)) = some (some (.string ⟨#[]⟩), 1, 16) := by kernel_rfl
end Go.Proofs.YtnidnipiihhnaaaGreatDoor
