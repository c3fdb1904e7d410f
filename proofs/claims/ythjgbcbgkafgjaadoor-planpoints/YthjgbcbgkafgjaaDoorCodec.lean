/- Contract of plain.TakeRow. -/
import Derived.Test.YthjgbcbgkafgjaaDoorBase
import Derived.Laws.CopyOwn
namespace Go.Proofs.YthjgbcbgkafgjaaDoor
open Go.RowKit
set_option linter.unusedVariables false
set_option maxRecDepth 20000

/-- n blobs one behind another, from byte i on: the error, the blobs, where they end. -/
def trows (bs : List UInt8) : Nat → Nat → Nat × List (List UInt8) × Nat
  | 0, i => (0, [], i)
  | n + 1, i =>
    if (tblob (bs.drop i)).1 ≠ 0 then ((tblob (bs.drop i)).1, [], 0)
    else if (trows bs n (i + (tblob (bs.drop i)).2.2)).1 ≠ 0 then ((trows bs n (i + (tblob (bs.drop i)).2.2)).1, [], 0)
    else (0, (tblob (bs.drop i)).2.1 :: (trows bs n (i + (tblob (bs.drop i)).2.2)).2.1, (trows bs n (i + (tblob (bs.drop i)).2.2)).2.2)

/-- TakeRow's answer: the error, the blobs, how many bytes they take. -/
def trow (bs : List UInt8) : Nat × List (List UInt8) × Nat :=
  if (tcount bs 4096).2 ≠ 0 then ((tcount bs 4096).2, [], 0) else trows bs (tcount bs 4096).1 4

/-- What has been gathered, and then the rest. -/
def thenRows (rows : List (List UInt8)) (r : Nat × List (List UInt8) × Nat) : Nat × List (List UInt8) × Nat :=
  if r.1 ≠ 0 then (r.1, [], 0) else (0, rows ++ r.2.1, r.2.2)

theorem thenRows_err (rows : List (List UInt8)) (bs : List UInt8) (n i : Nat) (h : (tblob (bs.drop i)).1 ≠ 0) : thenRows rows (trows bs (n + 1) i) = ((tblob (bs.drop i)).1, [], 0) := by
  simp [thenRows, trows, h]

theorem thenRows_next (rows : List (List UInt8)) (bs : List UInt8) (n i : Nat) (h : (tblob (bs.drop i)).1 = 0) :
    thenRows rows (trows bs (n + 1) i) = thenRows (rows ++ [(tblob (bs.drop i)).2.1]) (trows bs n (i + (tblob (bs.drop i)).2.2)) := by
  by_cases h2 : (trows bs n (i + (tblob (bs.drop i)).2.2)).1 = 0 <;> simp [thenRows, trows, h, h2]

theorem thenRows_nil (bs : List UInt8) (n i : Nat) : thenRows [] (trows bs n i) = trows bs n i := by
  cases n with
  | zero => simp [thenRows, trows]
  | succ n =>
    simp only [trows]
    split
    · simp [thenRows, *]
    · split
      · simp [thenRows, *]
      · simp [thenRows]

theorem tblob_used (bs : List UInt8) (h : (tblob bs).1 = 0) : 4 ≤ (tblob bs).2.2 ∧ (tblob bs).2.2 ≤ bs.length ∧ (tblob bs).2.1.length ≤ 65536 ∧ (tblob bs).2.2 = 4 + (tblob bs).2.1.length := by
  unfold tblob at h ⊢
  split at h
  · rename_i hz
    exact absurd h hz
  · rename_i hz
    split at h
    · simp at h
    · rename_i hl
      have := tcount_ok bs 65536 (by simpa using hz)
      rw [if_neg hz, if_neg hl]
      simp
      omega

theorem tblob_err (bs : List UInt8) : (tblob bs).1 ≤ 3 := by
  unfold tblob
  have := tcount_err bs 65536
  split
  · exact this
  · split <;> simp

/-- Slices of bytes that the call owns, each apart from the others, none nil. -/
structure RowsOwn (w : World) (B : Nat) (vs : List Value) (rows : List (List UInt8)) : Prop where
  len : vs.length = rows.length
  own : ∀ (j : Nat) (v : Value) (r : List UInt8), vs[j]? = some v → rows[j]? = some r → w.ownsRow B 5 1 v r.length (r.map by8) ∧ ∃ g cap, v = .slice (some ⟨g, 0, none⟩) r.length cap
  apart : ∀ (i j : Nat) (u v : Value), vs[i]? = some u → vs[j]? = some v → i ≠ j → u.ownBlock ≠ v.ownBlock

theorem RowsOwn.nil (w : World) (B : Nat) : RowsOwn w B [] [] := ⟨rfl, fun _ _ _ h => by simp at h, fun _ _ _ _ h => by simp at h⟩

theorem ownsRow_below {w w' : World} {B e n : Nat} {v : Value} {xs : List Value} (h : w.ownsRow B e 1 v n xs) (hb : Below w.heap.size w w') : w'.ownsRow B e 1 v n xs := by
  refine ⟨h.1, ?_⟩
  rcases h.2 with hn | ⟨g, cap, cur, hv, hB, hg, r⟩
  · exact .inl hn
  · exact .inr ⟨g, cap, cur, hv, hB, by rw [hb.block g (Array.getElem?_eq_some_iff.1 hg).1]; exact hg, r⟩

theorem RowsOwn.below {w w' : World} {B : Nat} {vs : List Value} {rows : List (List UInt8)} (h : RowsOwn w B vs rows) (hb : Below w.heap.size w w') : RowsOwn w' B vs rows :=
  ⟨h.len, fun j v r hv hr => ⟨ownsRow_below (h.own j v r hv hr).1 hb, (h.own j v r hv hr).2⟩, h.apart⟩

/-- Behind an append to a row of another element type. -/
theorem RowsOwn.kept {w w' : World} {B n : Nat} {vs : List Value} {rows : List (List UInt8)} {v : Value} {xs : List Value} (h : RowsOwn w B vs rows) (hv : w.ownsRow B 29 1 v n xs) (hg : w.grownBy w' v.ownBlock) : RowsOwn w' B vs rows := by
  refine ⟨h.len, fun j u r hu hr => ⟨?_, (h.own j u r hu hr).2⟩, h.apart⟩
  have ho := (h.own j u r hu hr).1
  refine ho.kept hg ?_
  obtain ⟨g, cap, rfl⟩ := (h.own j u r hu hr).2
  right
  intro e
  rcases hv.2 with ⟨rfl, _⟩ | ⟨g2, cap2, cur2, rfl, _, hg2, _⟩
  · simp [Value.ownBlock] at e
  · simp only [Value.ownBlock, Option.some.injEq] at e
    subst e
    rcases ho.2 with ⟨e2, _⟩ | ⟨g3, cap3, cur3, e3, _, hg3, _⟩
    · simp at e2
    · simp only [Value.slice.injEq, Option.some.injEq, Addr.mk.injEq] at e3
      obtain ⟨⟨rfl, _, _⟩, _, _⟩ := e3
      rw [hg2] at hg3
      simp at hg3

theorem RowsOwn.snoc {w : World} {B C : Nat} {vs : List Value} {rows : List (List UInt8)} {v : Value} {r : List UInt8} (h : RowsOwn w B vs rows) (hBC : B ≤ C) (hv : w.ownsRow C 5 1 v r.length (r.map by8))
    (hs : ∃ g cap, v = .slice (some ⟨g, 0, none⟩) r.length cap) (hlt : ∀ u ∈ vs, ∀ g, u.ownBlock = some g → g < C) : RowsOwn w B (vs ++ [v]) (rows ++ [r]) := by
  have hvB : w.ownsRow B 5 1 v r.length (r.map by8) := by
    refine ⟨hv.1, ?_⟩
    rcases hv.2 with hn | ⟨g, cap, cur, e, hC, rest⟩
    · exact .inl hn
    · exact .inr ⟨g, cap, cur, e, by omega, rest⟩
  have hnew : ∀ u ∈ vs, u.ownBlock ≠ v.ownBlock := by
    intro u hu e
    obtain ⟨g, cap, rfl⟩ := hs
    have h1 := hlt u hu g (by rw [e]; rfl)
    have h2 := (hv.lt g rfl).1
    omega
  refine ⟨by simp [h.len], fun j u q hu hq => ?_, fun i j u q hu hq hij => ?_⟩
  · rcases Nat.lt_or_ge j vs.length with hj | hj
    · rw [List.getElem?_append_left hj] at hu
      rw [List.getElem?_append_left (by rw [← h.len]; exact hj)] at hq
      exact h.own j u q hu hq
    · rw [List.getElem?_append_right hj] at hu
      rw [List.getElem?_append_right (by rw [← h.len]; exact hj), ← h.len] at hq
      cases e : j - vs.length with
      | zero =>
        rw [e] at hu hq
        simp at hu hq
        subst hu hq
        exact ⟨hvB, hs⟩
      | succ m => rw [e] at hu; simp at hu
  · rcases Nat.lt_or_ge i vs.length with hi | hi <;> rcases Nat.lt_or_ge j vs.length with hj | hj
    · rw [List.getElem?_append_left hi] at hu
      rw [List.getElem?_append_left hj] at hq
      exact h.apart i j u q hu hq hij
    · rw [List.getElem?_append_left hi] at hu
      have hjl : j = vs.length := by
        have := (List.getElem?_eq_some_iff.1 hq).1
        simp at this
        omega
      subst hjl
      rw [List.getElem?_append_right (Nat.le_refl _)] at hq
      simp at hq
      subst hq
      exact hnew u (List.mem_of_getElem? hu)
    · rw [List.getElem?_append_left hj] at hq
      have hil : i = vs.length := by
        have := (List.getElem?_eq_some_iff.1 hu).1
        simp at this
        omega
      subst hil
      rw [List.getElem?_append_right (Nat.le_refl _)] at hu
      simp at hu
      subst hu
      exact fun e => hnew q (List.mem_of_getElem? hq) e.symm
    · have h1 := (List.getElem?_eq_some_iff.1 hu).1
      have h2 := (List.getElem?_eq_some_iff.1 hq).1
      simp at h1 h2
      omega

theorem RowsOwn.lt {w : World} {B : Nat} {vs : List Value} {rows : List (List UInt8)} (h : RowsOwn w B vs rows) : ∀ u ∈ vs, ∀ g, u.ownBlock = some g → B ≤ g ∧ g < w.heap.size := by
  intro u hu g hg
  obtain ⟨j, hj⟩ := List.getElem?_of_mem hu
  have hjr : j < rows.length := by rw [← h.len]; exact (List.getElem?_eq_some_iff.1 hj).1
  exact (h.own j u rows[j] hj (List.getElem?_eq_getElem hjr)).1.lt g hg

theorem Tryd.infoBytes : (Tryd.prog.info? 29).map (fun i => (i.zero, i.size, i.bytes)) = some (some (.slice none 0 0), 1, 24) := by kernel_rfl

theorem own_shape {w : World} {B e n : Nat} {v : Value} {xs : List Value} (h : w.ownsRow B e 1 v n xs) (hn : v ≠ .slice none 0 0) : ∃ g cap, v = .slice (some ⟨g, 0, none⟩) n cap := by
  rcases h.2 with ⟨e, _⟩ | ⟨g, cap, _, e, _⟩
  · exact absurd e hn
  · exact ⟨g, cap, e⟩

/-- What TakeRow hands back: a list of slices of bytes, all its own. -/
def RowsAt (w : World) (B : Nat) (v : Value) (rows : List (List UInt8)) : Prop :=
  ∃ vs, w.ownsRow B 29 1 v rows.length vs ∧ RowsOwn w B vs rows

theorem trow_ok (bs : List UInt8) (h : (tcount bs 4096).2 = 0) : trow bs = trows bs (tcount bs 4096).1 4 := by simp [trow, h]
theorem trow_no (bs : List UInt8) (h : (tcount bs 4096).2 ≠ 0) : trow bs = ((tcount bs 4096).2, [], 0) := by simp [trow, h]

end Go.Proofs.YthjgbcbgkafgjaaDoor

/- Plain facts on blobs and rows: what was written is taken, what is cut off is told, what is taken was written so. Nothing of the program is named here. -/

namespace Go.Proofs.YthjgbcbgkafgjaaDoor
open Go.RowKit
set_option linter.unusedVariables false
set_option maxRecDepth 20000

theorem num_fold (l : List UInt8) : ∀ n : Nat, l.foldl (fun n c => n * 256 + c.toNat) n = n * 256 ^ l.length + num l := by
  induction l with
  | nil => intro n; simp [num]
  | cons c l ih =>
    intro n
    have e : num (c :: l) = c.toNat * 256 ^ l.length + num l := by
      show (c :: l).foldl (fun n c => n * 256 + c.toNat) 0 = _
      rw [List.foldl_cons, ih]
      simp
    rw [List.foldl_cons, ih, e, List.length_cons, Nat.pow_succ']
    simp only [Nat.add_mul, Nat.mul_assoc, Nat.add_assoc]

theorem num_cons (c : UInt8) (l : List UInt8) : num (c :: l) = c.toNat * 256 ^ l.length + num l := by
  rw [num, List.foldl_cons, num_fold]
  simp

theorem num_be (n : Nat) : ∀ s, num (be n s) = n % 256 ^ s
  | 0 => by simp [be, num, Nat.mod_one]
  | s + 1 => by
    have e : (256 : Nat) ^ (s + 1) = 256 ^ s * 256 := Nat.pow_succ ..
    have m := Nat.mod_mul (x := n) (a := 256 ^ s) (b := 256)
    rw [be, num_cons, num_be n s, be_length, UInt8.toNat_ofNat', e, m, Nat.mul_comm (n / 256 ^ s % 2 ^ 8), Nat.add_comm]

theorem num_be4 (n : Nat) (h : n ≤ 65536) : num (be n 4) = n := by
  rw [num_be]
  simp only [Nat.reducePow]
  omega

theorem take_be4 (n : Nat) (l : List UInt8) : (be n 4 ++ l).take 4 = be n 4 := by
  rw [List.take_append_of_le_length (by rw [be_length]; omega), List.take_of_length_le (by rw [be_length]; omega)]

theorem drop_be4 (n : Nat) (l : List UInt8) : (be n 4 ++ l).drop 4 = l := by
  rw [List.drop_append_of_le_length (by rw [be_length]; omega), List.drop_of_length_le (by rw [be_length]; omega), List.nil_append]

theorem tcount_be (n most : Nat) (l : List UInt8) (h : n ≤ 65536) (hm : n ≤ most) : tcount (be n 4 ++ l) most = (n, 0) := by
  unfold tcount
  rw [if_neg (by simp [be_length]), take_be4, num_be4 n h, if_neg (by omega)]

theorem tcount_short (l : List UInt8) (most : Nat) (h : l.length < 4) : tcount l most = (0, 3) := by
  unfold tcount
  rw [if_pos h]

theorem tblob_blob (r rest : List UInt8) (h : r.length ≤ 65536) : tblob (blob r ++ rest) = (0, r, 4 + r.length) := by
  have e : blob r ++ rest = be r.length 4 ++ (r ++ rest) := by simp [blob]
  have hc := tcount_be r.length 65536 (r ++ rest) h h
  unfold tblob
  rw [e, hc]
  simp only [ne_eq, not_true_eq_false, if_false]
  rw [if_neg (by simp [be_length]), drop_be4, List.take_append_of_le_length (by omega), List.take_of_length_le (by omega)]

theorem tblob_cut (r rest : List UInt8) (k : Nat) (h : r.length ≤ 65536) (hk : k < 4 + r.length) : tblob ((blob r ++ rest).take k) = (3, [], 0) := by
  by_cases h4 : k < 4
  · unfold tblob
    rw [tcount_short _ _ (by simp; omega)]
    simp
  · have e : (blob r ++ rest).take k = be r.length 4 ++ (r ++ rest).take (k - 4) := by
      rw [show blob r ++ rest = be r.length 4 ++ (r ++ rest) by simp [blob], List.take_append, be_length, List.take_of_length_le (by rw [be_length]; omega)]
    have hc := tcount_be r.length 65536 ((r ++ rest).take (k - 4)) h h
    unfold tblob
    rw [e, hc]
    simp only [ne_eq, not_true_eq_false, if_false]
    rw [if_pos (by simp [be_length]; omega)]

theorem blobs_cons (r : List UInt8) (rows : List (List UInt8)) : blobs (r :: rows) = blob r ++ blobs rows := by simp [blobs]

theorem trows_blobs : ∀ (rows : List (List UInt8)) (pre rest : List UInt8), fits rows → trows (pre ++ (blobs rows ++ rest)) rows.length pre.length = (0, rows, pre.length + (blobs rows).length)
  | [], pre, rest, _ => by simp [trows, blobs]
  | r :: rows, pre, rest, h => by
    have hr := h r (by simp)
    have ht := trows_blobs rows (pre ++ blob r) rest fun x hx => h x (by simp [hx])
    have hd : (pre ++ (blobs (r :: rows) ++ rest)).drop pre.length = blob r ++ (blobs rows ++ rest) := by
      rw [List.drop_left, blobs_cons, List.append_assoc]
    have hb := tblob_blob r (blobs rows ++ rest) hr
    have e1 : pre ++ blob r ++ (blobs rows ++ rest) = pre ++ (blobs (r :: rows) ++ rest) := by simp [blobs_cons]
    have e2 : (pre ++ blob r).length = pre.length + (4 + r.length) := by simp [blob_length]
    rw [e1, e2] at ht
    rw [List.length_cons, trows, hd, hb]
    simp only [ne_eq, not_true_eq_false, if_false, ht]
    simp [blobs_cons, blob_length]
    omega

theorem trow_row (rows : List (List UInt8)) (rest : List UInt8) (hl : rows.length ≤ 4096) (h : fits rows) : trow (rowBytes rows ++ rest) = (0, rows, (rowBytes rows).length) := by
  have hc := tcount_be rows.length 4096 (blobs rows ++ rest) (by omega) hl
  have ht := trows_blobs rows (be rows.length 4) rest h
  rw [be_length] at ht
  have e : rowBytes rows ++ rest = be rows.length 4 ++ (blobs rows ++ rest) := by simp [rowBytes]
  rw [e, trow, hc]
  simp only [ne_eq, not_true_eq_false, if_false, ht]
  simp [rowBytes, be_length]

theorem trows_cut : ∀ (rows : List (List UInt8)) (pre : List UInt8) (k : Nat), fits rows → k < (blobs rows).length → trows (pre ++ (blobs rows).take k) rows.length pre.length = (3, [], 0)
  | [], pre, k, _, hk => by simp [blobs] at hk
  | r :: rows, pre, k, h, hk => by
    have hr := h r (by simp)
    have hd : (pre ++ (blobs (r :: rows)).take k).drop pre.length = (blob r ++ blobs rows).take k := by rw [List.drop_left, blobs_cons]
    rw [List.length_cons, trows, hd]
    by_cases hlt : k < 4 + r.length
    · rw [tblob_cut r (blobs rows) k hr hlt]
      simp
    · have e : (blob r ++ blobs rows).take k = blob r ++ (blobs rows).take (k - (4 + r.length)) := by
        rw [List.take_append, blob_length, List.take_of_length_le (by rw [blob_length]; omega)]
      have hk2 : k - (4 + r.length) < (blobs rows).length := by
        rw [blobs_cons, List.length_append, blob_length] at hk
        omega
      have ht := trows_cut rows (pre ++ blob r) (k - (4 + r.length)) (fun x hx => h x (by simp [hx])) hk2
      have e1 : pre ++ blob r ++ (blobs rows).take (k - (4 + r.length)) = pre ++ (blobs (r :: rows)).take k := by
        rw [blobs_cons, e, List.append_assoc]
      have e2 : (pre ++ blob r).length = pre.length + (4 + r.length) := by simp [blob_length]
      rw [e1, e2] at ht
      rw [e, tblob_blob r _ hr]
      simp only [ne_eq, not_true_eq_false, if_false, ht]
      simp

theorem trow_cut (rows : List (List UInt8)) (k : Nat) (hl : rows.length ≤ 4096) (h : fits rows) (hk : k < (rowBytes rows).length) : trow ((rowBytes rows).take k) = (3, [], 0) := by
  by_cases h4 : k < 4
  · unfold trow
    rw [tcount_short _ _ (by simp; omega)]
    simp
  · have e : (rowBytes rows).take k = be rows.length 4 ++ (blobs rows).take (k - 4) := by
      rw [rowBytes, List.take_append, be_length, List.take_of_length_le (by rw [be_length]; omega)]
    have hk2 : k - 4 < (blobs rows).length := by
      rw [rowBytes, List.length_append, be_length] at hk
      omega
    have hc := tcount_be rows.length 4096 ((blobs rows).take (k - 4)) (by omega) hl
    have ht := trows_cut rows (be rows.length 4) (k - 4) h hk2
    rw [be_length] at ht
    rw [e, trow, hc]
    simp only [ne_eq, not_true_eq_false, if_false, ht]
end Go.Proofs.YthjgbcbgkafgjaaDoor

/- Contracts of plain.TakeNum, plain.TakeNumKey and of the document's own Num, NumKey, TakeNum, TakeNumKey. -/

namespace Go.Proofs.YthjgbcbgkafgjaaDoor
open Go.RowKit
set_option linter.unusedVariables false
set_option maxRecDepth 20000

/-- A uint64 as an int. -/
def i64of (n : Nat) : Int := wrap64 (n : Int)

theorem wrap64_eq (x : Int) : wrap64 x = (x + 9223372036854775808) % 18446744073709551616 - 9223372036854775808 := by
  simp only [wrap64]

/-- TakeNum's answer (add: nothing), and TakeNumKey's (add: 2^63): the number, the bytes it takes, the error. -/
def tnum (bs : List UInt8) (add : Nat) : Int × Int × Int := if bs.length < 8 then (0, 0, 3) else (i64of (num (bs.take 8) + add), 8, 0)

theorem key_turn (q : Nat) : wrap64 (IntKind.u64.wrap ((q : Int) - 9223372036854775808)) = i64of (q + 9223372036854775808) := by
  rw [i64of, wrap64_eq, wrap64_eq, IntKind.wrap_u64]
  omega

theorem ret3 {a a' b b' c c' : Int} (h1 : a = a') (h2 : b = b') (h3 : c = c') : Ending.returned (.tuple #[.int .i64 a, .int .i64 b, .int .i64 c]) = .returned (.tuple #[.int .i64 a', .int .i64 b', .int .i64 c']) := by
  rw [h1, h2, h3]

theorem toNat_wrapped (x : Int) (m : Nat) (h : x % 18446744073709551616 = ((m % 18446744073709551616 : Nat) : Int)) : (BitVec.ofInt 64 x).toNat = m % 18446744073709551616 := by
  rw [BitVec.toNat_ofInt]
  have e : ((2 ^ 64 : Nat) : Int) = 18446744073709551616 := by decide
  rw [e, h, Int.toNat_natCast]

theorem or_nat (m c : Nat) (hc : c < 256) : m * 256 ||| c = m * 256 + c := by
  have := Nat.shiftLeft_add_eq_or_of_lt (i := 8) (b := c) (by omega) m
  rw [Nat.shiftLeft_eq] at this
  exact this.symm

/-- One step of the document's TakeNum, as the walk writes it. -/
theorem or_i64 (N : Nat) (c : UInt8) : bits .or .i64 (wrap64 (i64of N * 256)) (wrap64 (c.toNat : Int)) = i64of (N * 256 + c.toNat) := by
  have hc : c.toNat < 256 := c.toNat_lt
  generalize c.toNat = d at *
  have e1 : (BitVec.ofInt 64 (wrap64 (i64of N * 256))).toNat = (N * 256) % 18446744073709551616 := by
    apply toNat_wrapped
    rw [i64of, wrap64_eq, wrap64_eq]
    omega
  have e2 : (BitVec.ofInt 64 (wrap64 (d : Int))).toNat = d % 18446744073709551616 := by
    apply toNat_wrapped
    rw [wrap64_eq]
    omega
  have e3 : (BitVec.ofInt 64 (wrap64 (i64of N * 256)) ||| BitVec.ofInt 64 (wrap64 (d : Int))).toNat = (N % 72057594037927936) * 256 + d := by
    rw [BitVec.toNat_or, e1, e2]
    have f1 : (N * 256) % 18446744073709551616 = (N % 72057594037927936) * 256 := by omega
    have f2 : d % 18446744073709551616 = d := by omega
    rw [f1, f2, or_nat _ _ hc]
  show IntKind.i64.wrap ((BitVec.ofInt 64 (wrap64 (i64of N * 256)) ||| BitVec.ofInt 64 (wrap64 (d : Int))).toNat : Int) = _
  rw [e3, IntKind.wrap_i64, i64of, wrap64_eq]
  clear e1 e2 e3
  omega
end Go.Proofs.YthjgbcbgkafgjaaDoor

/- Contracts of the law's helpers Lent and Kept. -/

namespace Go.Proofs.YthjgbcbgkafgjaaDoor
open Go.RowKit
set_option linter.unusedVariables false
set_option maxRecDepth 20000

/-- Zero bytes, as cells. -/
def zeros (n : Nat) : List Value := List.replicate n (.int .u8 0)

theorem zeros_length (n : Nat) : (zeros n).length = n := by simp [zeros]

theorem toArray_made (n : Nat) : madeCells #[Value.int .u8 0] n = (zeros n).toArray := by
  apply Array.ext'
  rw [toList_madeCells_one]
  rfl

/-- WHAT IS LENT: bytes with one place behind them, in which 77 stands. -/
def Lends (B : Nat) (w : World) (v : Value) (bs : List UInt8) : Prop :=
  ∃ g, v = .slice (some ⟨g, 0, none⟩) bs.length (bs.length + 1) ∧ w.ownsRow B 5 1 (.slice (some ⟨g, 0, none⟩) (bs.length + 1) (bs.length + 1)) (bs.length + 1) (bs.map by8 ++ [.int .u8 77])

theorem Lends.shows {B : Nat} {w : World} {v : Value} {bs : List UInt8} (h : Lends B w v bs) (hm : bs.length + 1 ≤ maxLen) : Shows w.heap.size w v bs := by
  obtain ⟨g, rfl, ho⟩ := h
  refine ⟨_, _, rfl, by omega, hm, (fun e => by cases e), fun _ => ⟨g, 0, rfl, (ho.lt g rfl).2, fun j hj => ?_⟩⟩
  rw [Nat.zero_add, ho.cellAt j (by omega), List.getElem?_append_left (by simpa using hj), List.getElem?_map, List.getElem?_eq_getElem hj]
  rfl

theorem Lends.below {B : Nat} {w w' : World} {v : Value} {bs : List UInt8} (h : Lends B w v bs) (hb : Below w.heap.size w w') : Lends B w' v bs := by
  obtain ⟨g, rfl, h1, h2⟩ := h
  refine ⟨g, rfl, h1, ?_⟩
  rcases h2 with hn | ⟨g', cap, cur, hv, hB, hg, r⟩
  · exact .inl hn
  · exact .inr ⟨g', cap, cur, hv, hB, by rw [hb.block g' (Array.getElem?_eq_some_iff.1 hg).1]; exact hg, r⟩

set_option maxHeartbeats 1000000 in
theorem lent_any (B0 : Nat) (v : Value) (bs : List UInt8) (w : World) (hB : B0 ≤ w.heap.size) (hsh : Shows B0 w v bs) (hl : bs.length ≤ 140737488351232) :
    Calls Tryd.prog 13 #[v] w fun e w' => ∃ v', e = .returned v' ∧ Lends w.heap.size w' v' bs ∧ Below w.heap.size w w' := by
  obtain ⟨i0, hi, hz0, hz1, hz2⟩ := info_parts Tryd.infoU8
  have hsh0 := hsh
  obtain ⟨a, c, rfl, h1, h2, hn, h3⟩ := hsh
  have hmk : ∀ u : World, (Instr.makeSlice 29 (.int .i64 (bs.length : Int)) (.int .i64 ((bs.length : Int) + 1))).run Tryd.prog u =
      .ok (.slice (some ⟨u.heap.size, 0, none⟩) bs.length (bs.length + 1)) (u.alloc (.cells (zeros (bs.length + 1)).toArray 5)) := fun u => by
    have h := run_make (P := Tryd.prog) u 29 5 i0 (.int .u8 0) Tryd.underlying29 hi hz0 .i64 .i64 (bs.length : Int) ((bs.length : Int) + 1) (by omega) (by omega) (by rw [hz2]; omega) (by omega)
    have e : ((bs.length : Int) + 1).toNat = bs.length + 1 := by omega
    rw [e, hz1, Nat.mul_one, Int.toNat_natCast] at h
    rw [h]
    congr 3
    exact toArray_made _
  have hinfo : (Tryd.prog.info? 5).map (·.size) = some 1 := by rw [hi]; simp [hz1]
  have hzl := zeros_length (bs.length + 1)
  generalize hzz : zeros (bs.length + 1) = Z at *
  have HZ := hid hzz
  clear hzz
  have hsh1 := hsh0.alloc hB (.cells Z.toArray 5)
  have hnew : (w.alloc (.cells Z.toArray 5)).heap[w.heap.size]? = some (.cells Z.toArray 5 (0, 0)) := heap_alloc_new w _
  have hbn : Below w.heap.size w (w.alloc (.cells Z.toArray 5)) := (Below.refl _ _).alloc (Nat.le_refl _) _
  obtain ⟨w2, hcp, hg2, hb2⟩ : ∃ w2, (Builtin.copy_ #[29, 29] 3 #[.slice (some ⟨w.heap.size, 0, none⟩) bs.length (bs.length + 1), .slice a bs.length c]).run Tryd.prog (w.alloc (.cells Z.toArray 5)) = .ok (goInt bs.length) w2 ∧
      w2.heap[w.heap.size]? = some (.cells (bs.map by8 ++ [Value.int .u8 0]).toArray 5 (0, 0)) ∧ Below w.heap.size w w2 := by
    by_cases hb : bs = []
    · subst hb
      refine ⟨_, run_copy_none (P := Tryd.prog) _ 29 29 3 5 _ a 0 1 0 c Tryd.underlying29 hinfo rfl, ?_, hbn⟩
      rw [hnew, ← HZ.out]
      rfl
    · obtain ⟨b, off, rfl, hlt, hc⟩ := h3 hb
      have hr := run_copy_row (P := Tryd.prog) (w.alloc (.cells Z.toArray 5)) 29 29 3 5 w.heap.size 0 bs.length (bs.length + 1) ⟨b, off, none⟩ bs.length c Z.toArray 5 (bs.map by8) Tryd.underlying29 hinfo hnew (by simp) (by8_cells hsh1).2 (by simp; omega) (by8_one bs)
      rw [List.length_map] at hr
      refine ⟨_, hr, ?_, below_setRow hbn (Nat.le_refl _) _⟩
      rw [setRow_heap _ _ _ _ _ _ hnew]
      rw [← HZ.out]
      simp [zeros]
  clear hsh1 hnew hbn
  go_enter Tryd.func13, Tryd.ntmps13
  have hcell : w2.cell? ⟨w.heap.size, bs.length, none⟩ = some (.int .u8 0) := by
    rw [cell_of_row w2 _ _ _ _ _ hg2]
    simp
  have hfz : w2.frozen? ⟨w.heap.size, bs.length, none⟩ = false := frozen_of_row w2 _ _ _ _ hg2
  have HG := hid hg2
  clear hg2
  go_wp2
  go_ret
  refine ⟨_, rfl, ⟨w.heap.size, rfl, by simp, .inr ⟨w.heap.size, bs.length + 1, _, rfl, Nat.le_refl _, heap_setCell_same w2 _ _ _ _ _ HG.out, Nat.le_refl _, by unfold maxLen; omega, by simp, ?_⟩⟩, hb2.setCell (Nat.le_refl _) _⟩
  rw [Array.toList_setIfInBounds, List.toList_toArray]
  have : (bs.map by8 ++ [Value.int .u8 0]).set bs.length (.int .u8 77) = bs.map by8 ++ [.int .u8 77] := by
    rw [List.set_append_right _ _ (by simp)]
    simp
  rw [this]
  exact List.take_of_length_le (by simp)

set_option maxHeartbeats 1000000 in
theorem kept_any (B B0 : Nat) (v u : Value) (bs : List UInt8) (w : World) (hL : Lends B w v bs) (hsh : Shows B0 w u bs) (hl : bs.length ≤ 140737488351232) :
    Calls Tryd.prog 16 #[v, u] w fun e w' => e = .returned (.bool true) ∧ w' = w := by
  have hs1 := run_string_shows (P := Tryd.prog) 29 5 9 Tryd.underlying29 Tryd.underlying5 Tryd.underlying9 (hL.shows (by unfold maxLen; omega))
  have hs2 := run_string_shows (P := Tryd.prog) 29 5 9 Tryd.underlying29 Tryd.underlying5 Tryd.underlying9 hsh
  obtain ⟨g, rfl, ho⟩ := hL
  obtain ⟨a, c, rfl, h1, h2, hn, h3⟩ := hsh
  have hc : w.cell? ⟨g, bs.length, none⟩ = some (.int .u8 77) := by
    rw [ho.cellAt bs.length (by omega), List.getElem?_append_right (by simp)]
    simp
  clear ho h3 hn
  generalize str8 bs = sv at *
  go_enter Tryd.func16, Tryd.ntmps16
  go_wp2
  go_ret
  exact ⟨rfl, rfl⟩
end Go.Proofs.YthjgbcbgkafgjaaDoor
