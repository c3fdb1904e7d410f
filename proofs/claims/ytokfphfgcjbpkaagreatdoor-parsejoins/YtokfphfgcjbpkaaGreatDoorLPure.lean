/- Plain: how a source is cut into tokens. -/
import Derived.Test.YtokfphfgcjbpkaaGreatDoorVDbl
import Derived.Lib.AtoiAll
import Derived.Lib.ItoaNum
import Derived.Lib.Fields
namespace Go.Proofs.YtokfphfgcjbpkaaGreatDoor
set_option linter.unusedVariables false
set_option linter.unusedSimpArgs false

/-- The bytes of which sources are made. -/
def lowsB : List UInt8 := [97, 98, 99, 100, 101, 102, 103, 104, 105, 106, 107, 108, 109, 110, 111, 112, 113, 114, 115, 116, 117, 118, 119, 120, 121, 122, 95]
def digsB : List UInt8 := [48, 49, 50, 51, 52, 53, 54, 55, 56, 57]
def upsB : List UInt8 := [65, 66, 67, 68, 69, 70, 71, 72, 73, 74, 75, 76, 77, 78, 79, 80, 81, 82, 83, 84, 85, 86, 87, 88, 89, 90]
def blksB : List UInt8 := [9, 10, 13, 32]
def nameB : List UInt8 := lowsB ++ digsB
def gluedB : List UInt8 := lowsB ++ (upsB ++ digsB)

/-- Does a byte stand in a set? -/
def inS (l : List UInt8) (c : UInt8) : Bool := l.contains c

theorem index_inS : ∀ (l : List UInt8) (c : UInt8), decide (0 ≤ Lib.indexByte l c) = inS l c
  | [], c => by simp [Lib.indexByte, inS]
  | b :: l, c => by
    have ih := index_inS l c
    have hge := Lib.indexByte_ge l c
    unfold Lib.indexByte
    by_cases h : b = c
    · subst h; simp [inS]
    · have h' : (b == c) = false := by simpa using h
      have h2 : ¬ c = b := fun e => h e.symm
      rw [h']
      simp only [Bool.false_eq_true, if_false]
      have e : inS (b :: l) c = inS l c := by simp [inS, h2]
      rw [e, ← ih]
      by_cases hm : Lib.indexByte l c = -1
      · simp [hm]
      · have : (Lib.indexByte l c == -1) = false := by simpa using hm
        rw [this]
        simp only [Bool.false_eq_true, if_false]
        rw [decide_eq_true (by omega), decide_eq_true (by omega)]

/-- How many bytes of a kind a text begins with. -/
def row (p : UInt8 → Bool) (s : List UInt8) : Nat := (s.takeWhile p).length

theorem row_le (p : UInt8 → Bool) (s : List UInt8) : row p s ≤ s.length := by
  unfold row
  induction s with
  | nil => simp
  | cons c s ih => rw [List.takeWhile_cons]; split <;> simp <;> omega

theorem take_row (p : UInt8 → Bool) (s : List UInt8) : s.take (row p s) = s.takeWhile p := by
  unfold row
  induction s with
  | nil => simp
  | cons c s ih =>
    rw [List.takeWhile_cons]
    split
    · simp [ih]
    · simp

theorem row_cons_pos {p : UInt8 → Bool} {c : UInt8} {s : List UInt8} (h : p c = true) : row p (c :: s) = row p s + 1 := by
  simp [row, List.takeWhile_cons, h]
theorem row_cons_neg {p : UInt8 → Bool} {c : UInt8} {s : List UInt8} (h : p c = false) : row p (c :: s) = 0 := by
  simp [row, List.takeWhile_cons, h]
theorem row_nil (p : UInt8 → Bool) : row p [] = 0 := rfl

/-- What is behind the row does not belong to it. -/
theorem row_drop (p : UInt8 → Bool) (s : List UInt8) : row p (s.drop (row p s)) = 0 := by
  induction s with
  | nil => simp [row]
  | cons c s ih =>
    cases h : p c
    · rw [row_cons_neg h, List.drop_zero, row_cons_neg h]
    · rw [row_cons_pos h, List.drop_succ_cons, ih]

/-- A row, and what is behind it. -/
theorem row_append {p : UInt8 → Bool} {a x : List UInt8} (ha : ∀ c ∈ a, p c = true) (hx : row p x = 0) : row p (a ++ x) = a.length := by
  induction a with
  | nil => simpa using hx
  | cons c a ih =>
    rw [List.cons_append, row_cons_pos (ha c (by simp)), ih (fun d hd => ha d (by simp [hd]))]
    simp

theorem takeWhile_all (p : UInt8 → Bool) (s : List UInt8) : ∀ c ∈ s.takeWhile p, p c = true := by
  induction s with
  | nil => simp
  | cons c s ih =>
    rw [List.takeWhile_cons]
    split
    · intro d hd
      rcases List.mem_cons.1 hd with rfl | hd
      · assumption
      · exact ih d hd
    · simp

theorem take_row_all (p : UInt8 → Bool) (s : List UInt8) : ∀ c ∈ s.take (row p s), p c = true := by
  rw [take_row]; exact takeWhile_all p s

/-- A token: its kind, text, number, place. -/
structure Tk where
  k : Int
  s : List UInt8
  n : Int
  p : Int

def zTk : Tk := ⟨0, [], 0, 0⟩
/-- The token without its place. -/
def Tk.z (t : Tk) : Tk := ⟨t.k, t.s, t.n, 0⟩

theorem Tk.z_z (t : Tk) : t.z.z = t.z := rfl

def wordsB : List (List UInt8) := [[65, 78, 68], [66, 89], [67, 79, 85, 78, 84], [67, 82, 69, 65, 84, 69], [68, 69, 76, 69, 84, 69], [68, 69, 83, 67], [68, 82, 79, 80], [70, 82, 79, 77], [71, 82, 79, 85, 80], [73, 78, 83, 69, 82, 84], [73, 78, 84], [73, 78, 84, 79], [73, 83], [74, 79, 73, 78], [75, 69, 89], [76, 73, 77, 73, 84], [77, 65, 88], [77, 73, 78], [78, 79, 84], [78, 85, 76, 76], [79, 78], [79, 82], [79, 82, 68, 69, 82], [80, 82, 73, 77, 65, 82, 89], [83, 69, 76, 69, 67, 84], [83, 69, 84], [83, 85, 77], [84, 65, 66, 76, 69], [84, 69, 88, 84], [85, 78, 73, 81, 85, 69], [85, 80, 68, 65, 84, 69], [86, 65, 76, 85, 69, 83], [87, 72, 69, 82, 69]]

def signsB : List (List UInt8) := [[60, 62], [60, 61], [62, 61], [40], [41], [44], [59], [46], [42], [43], [45], [47], [37], [61], [60], [62]]

def runsB (r : List UInt8) : Bool := decide (0 < row (inS gluedB) r)

def cutNameT (s : List UInt8) : Nat × Tk × Nat :=
  if runsB (s.drop (row (inS nameB) s)) = true then (4, zTk, 0) else if 16 < row (inS nameB) s then (2, zTk, 0) else (0, ⟨1, s.take (row (inS nameB) s), 0, 0⟩, row (inS nameB) s)

def cutWordT (s : List UInt8) : Nat × Tk × Nat :=
  if runsB (s.drop (row (inS upsB) s)) = true then (4, zTk, 0) else if wordsB.contains (s.take (row (inS upsB) s)) = false then (4, zTk, 0) else (0, ⟨2, s.take (row (inS upsB) s), 0, 0⟩, row (inS upsB) s)

/-- What a row of digits comes to. -/
def numT (n : Nat) : Lib.NumEnd Int → Nat × Tk × Nat
  | .ok v => (0, ⟨3, [], v, 0⟩, n)
  | _ => (7, zTk, 0)

def cutNumT (s : List UInt8) : Nat × Tk × Nat :=
  if runsB (s.drop (row (inS digsB) s)) = true then (4, zTk, 0) else numT (row (inS digsB) s) (Lib.atoiAll (s.take (row (inS digsB) s)))

/-- Behind a first quote: the text, what is behind it, whether it ends. -/
def txt : List UInt8 → List UInt8 × List UInt8 × Bool
  | [] => ([], [], false)
  | [c] => if c = 39 then ([], [], true) else ([c], [], false)
  | c :: d :: r => if c = 39 then (if d = 39 then (39 :: (txt r).1, (txt r).2) else ([], d :: r, true)) else (c :: (txt (d :: r)).1, (txt (d :: r)).2)

/-- What the text comes to, of a source with so many bytes. -/
def textT (n : Nat) (x : List UInt8 × List UInt8 × Bool) : Nat × Tk × Nat :=
  if 40 < x.1.length then (2, zTk, 0) else if x.2.2 = false then (3, zTk, 0) else (0, ⟨4, x.1, 0, 0⟩, n - x.2.1.length)

def cutTextT (s : List UInt8) : Nat × Tk × Nat := textT s.length (txt (s.drop 1))

/-- The first of some signs that a text begins with. -/
def signT : List (List UInt8) → List UInt8 → Nat × Tk × Nat
  | [], _ => (4, zTk, 0)
  | g :: r, s => if g.isPrefixOf s = true then (0, ⟨5, g, 0, 0⟩, g.length) else signT r s

def cutSignT (s : List UInt8) : Nat × Tk × Nat := signT signsB s

/-- The token that a text begins with: what is wrong, the token, how many bytes. -/
def cutT (s : List UInt8) : Nat × Tk × Nat :=
  match s with
  | [] => (4, zTk, 0)
  | c :: _ => if inS lowsB c = true then cutNameT s else if inS upsB c = true then cutWordT s else if inS digsB c = true then cutNumT s else if inS [39] c = true then cutTextT s else cutSignT s

/-- How many bytes of blanks a text begins with; within a remark or not. -/
def skip : Bool → List UInt8 → Nat
  | _, [] => 0
  | true, c :: r => 1 + skip (c != 10) r
  | false, c :: r => if inS blksB c = true then 1 + skip false r else if c = 45 ∧ r.head? = some 45 then 1 + skip true r else 0

theorem skip_le : ∀ (s : List UInt8) (b : Bool), skip b s ≤ s.length
  | [], b => by cases b <;> simp [skip]
  | c :: r, true => by
    have := skip_le r (c != 10)
    simp only [skip, List.length_cons]; omega
  | c :: r, false => by
    have h1 := skip_le r false
    have h2 := skip_le r true
    simp only [skip, List.length_cons]
    split
    · omega
    · split <;> omega

/-- A remark goes up to the next byte 10, and on as blanks do. -/
theorem skip_remark : ∀ (s : List UInt8), skip true s = row (fun c => c != 10) s + skip false (s.drop (row (fun c => c != 10) s))
  | [] => rfl
  | c :: r => by
    have ih := skip_remark r
    by_cases h : c = 10
    · subst h
      rw [row_cons_neg (by decide)]
      simp [skip, inS, blksB]
    · have hp : (c != 10) = true := by simpa using h
      rw [row_cons_pos (p := fun c => c != 10) hp, List.drop_succ_cons]
      rw [skip, hp, ih]
      omega

/-- Behind the blanks there is none. -/
theorem skip_drop : ∀ (s : List UInt8) (b : Bool), skip false (s.drop (skip b s)) = 0
  | [], b => by cases b <;> rfl
  | c :: r, true => by
    have ih := skip_drop r (c != 10)
    rw [skip, Nat.add_comm, List.drop_succ_cons]
    exact ih
  | c :: r, false => by
    have h1 := skip_drop r false
    have h2 := skip_drop r true
    by_cases hb : inS blksB c = true
    · rw [skip, if_pos hb, Nat.add_comm, List.drop_succ_cons]; exact h1
    · by_cases hr : c = 45 ∧ r.head? = some 45
      · rw [skip, if_neg hb, if_pos hr, Nat.add_comm, List.drop_succ_cons]; exact h2
      · have e : skip false (c :: r) = 0 := by rw [skip, if_neg hb, if_neg hr]
        rw [e, List.drop_zero, e]

/-- Where no blank stands, none stands in a beginning. -/
theorem skip_take {s : List UInt8} (h : skip false s = 0) (m : Nat) : skip false (s.take m) = 0 := by
  match s, m, h with
  | [], m, _ => simp [skip]
  | c :: r, 0, _ => rfl
  | c :: r, m + 1, h =>
    rw [skip] at h
    rw [List.take_succ_cons, skip]
    split at h
    · omega
    · rename_i hb
      split at h
      · omega
      · rename_i hr
        rw [if_neg hb, if_neg]
        rintro ⟨rfl, h2⟩
        refine hr ⟨rfl, ?_⟩
        cases r with
        | nil => simp at h2
        | cons d r => cases m <;> simp at h2 ⊢; exact h2

/-- The blanks by themselves are blanks. -/
theorem skip_self : ∀ (s : List UInt8) (b : Bool), skip b (s.take (skip b s)) = skip b s
  | [], b => by simp
  | c :: r, true => by
    have ih := skip_self r (c != 10)
    rw [skip, Nat.add_comm, List.take_succ_cons, skip, ih]; omega
  | c :: r, false => by
    have h1 := skip_self r false
    have h2 := skip_self r true
    by_cases hb : inS blksB c = true
    · rw [skip, if_pos hb, Nat.add_comm, List.take_succ_cons, skip, if_pos hb, h1]; omega
    · by_cases hr : c = 45 ∧ r.head? = some 45
      · have hr' : c = 45 ∧ (r.take (skip true r)).head? = some 45 := by
          refine ⟨hr.1, ?_⟩
          match r, hr.2 with
          | d :: r, h => rw [skip, Nat.add_comm, List.take_succ_cons]; exact h
        rw [skip, if_neg hb, if_pos hr, Nat.add_comm, List.take_succ_cons, skip, if_neg hb, if_pos hr', h2]; omega
      · rw [show skip false (c :: r) = 0 by rw [skip, if_neg hb, if_neg hr]]; rfl

/-- What may stand behind a token with nothing in between: nothing, a blank, a sign -. -/
def Stop (x : List UInt8) : Prop := x = [] ∨ ∃ c r, x = c :: r ∧ (c = 9 ∨ c = 10 ∨ c = 13 ∨ c = 32 ∨ c = 45)

theorem stop_blanks (s : List UInt8) : Stop (s.take (skip false s)) := by
  match s with
  | [] => exact .inl (by simp)
  | c :: r =>
    by_cases hb : inS blksB c = true
    · refine .inr ⟨c, r.take (skip false r), by rw [skip, if_pos hb, Nat.add_comm, List.take_succ_cons], ?_⟩
      simp [inS, blksB] at hb
      rcases hb with h | h | h | h <;> simp [h]
    · by_cases hr : c = 45 ∧ r.head? = some 45
      · exact .inr ⟨c, r.take (skip true r), by rw [skip, if_neg hb, if_pos hr, Nat.add_comm, List.take_succ_cons], by simp [hr.1]⟩
      · exact .inl (by rw [skip, if_neg hb, if_neg hr, List.take_zero])

theorem stop_row {x : List UInt8} (h : Stop x) : row (inS nameB) x = 0 ∧ row (inS upsB) x = 0 ∧ row (inS digsB) x = 0 ∧ row (inS gluedB) x = 0 := by
  rcases h with rfl | ⟨c, r, rfl, h⟩
  · exact ⟨rfl, rfl, rfl, rfl⟩
  · rcases h with rfl | rfl | rfl | rfl | rfl <;> exact ⟨row_cons_neg (by decide), row_cons_neg (by decide), row_cons_neg (by decide), row_cons_neg (by decide)⟩

theorem stop_runs {x : List UInt8} (h : Stop x) : runsB x = false := by
  rw [runsB, (stop_row h).2.2.2]; rfl

theorem inS_glued {c : UInt8} : (inS nameB c = true → inS gluedB c = true) ∧ (inS upsB c = true → inS gluedB c = true) ∧ (inS digsB c = true → inS gluedB c = true) := by
  refine ⟨fun h => ?_, fun h => ?_, fun h => ?_⟩ <;> simp only [inS, List.contains_iff_mem, nameB, gluedB, List.mem_append] at h ⊢
  · exact h.elim .inl fun h => .inr (.inr h)
  · exact .inr (.inl h)
  · exact .inr (.inr h)

/-- How many bytes a token that was cut takes: some, no more than there are. -/
theorem row_first {p : UInt8 → Bool} {c : UInt8} {r : List UInt8} (h : p c = true) : 1 ≤ row p (c :: r) := by
  rw [row_cons_pos h]; omega

end Go.Proofs.YtokfphfgcjbpkaaGreatDoor
