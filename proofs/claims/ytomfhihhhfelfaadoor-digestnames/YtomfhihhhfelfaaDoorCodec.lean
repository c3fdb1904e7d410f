/- Plain facts on blobs and rows: what was written is taken, what is cut off is told, what is taken was written so. Nothing of the program is named here. -/
import Derived.Test.YtomfhihhhfelfaaDoorTRow
import Derived.Test.YtomfhihhhfelfaaDoorRow
namespace Go.Proofs.YtomfhihhhfelfaaDoor
open Go.RowKit
set_option linter.unusedVariables false

theorem num_fold (l : List UInt8) : ∀ n : Nat, l.foldl (fun n c => n * 256 + c.toNat) n = n * 256 ^ l.length + num l := by
  induction l with
  | nil => intro n; simp [num]
  | cons c l ih =>
    intro n
    have e : num (c :: l) = c.toNat * 256 ^ l.length + num l := by
      show (c :: l).foldl (fun n c => n * 256 + c.toNat) 0 = _
      rw [List.foldl_cons, ih]
      simp
    rw [List.foldl_cons, ih, e, List.length_cons, Nat.pow_succ']
    simp only [Nat.add_mul, Nat.mul_assoc, Nat.add_assoc]

theorem num_cons (c : UInt8) (l : List UInt8) : num (c :: l) = c.toNat * 256 ^ l.length + num l := by
  rw [num, List.foldl_cons, num_fold]
  simp

theorem num_be (n : Nat) : ∀ s, num (be n s) = n % 256 ^ s
  | 0 => by simp [be, num, Nat.mod_one]
  | s + 1 => by
    have e : (256 : Nat) ^ (s + 1) = 256 ^ s * 256 := Nat.pow_succ ..
    have m := Nat.mod_mul (x := n) (a := 256 ^ s) (b := 256)
    rw [be, num_cons, num_be n s, be_length, UInt8.toNat_ofNat', e, m, Nat.mul_comm (n / 256 ^ s % 2 ^ 8), Nat.add_comm]

theorem num_be4 (n : Nat) (h : n ≤ 65536) : num (be n 4) = n := by
  rw [num_be]
  simp only [Nat.reducePow]
  omega

theorem take_be4 (n : Nat) (l : List UInt8) : (be n 4 ++ l).take 4 = be n 4 := by
  rw [List.take_append_of_le_length (by rw [be_length]; omega), List.take_of_length_le (by rw [be_length]; omega)]

theorem drop_be4 (n : Nat) (l : List UInt8) : (be n 4 ++ l).drop 4 = l := by
  rw [List.drop_append_of_le_length (by rw [be_length]; omega), List.drop_of_length_le (by rw [be_length]; omega), List.nil_append]

theorem tcount_be (n most : Nat) (l : List UInt8) (h : n ≤ 65536) (hm : n ≤ most) : tcount (be n 4 ++ l) most = (n, 0) := by
  unfold tcount
  rw [if_neg (by simp [be_length]), take_be4, num_be4 n h, if_neg (by omega)]

theorem tcount_short (l : List UInt8) (most : Nat) (h : l.length < 4) : tcount l most = (0, 3) := by
  unfold tcount
  rw [if_pos h]

theorem tblob_blob (r rest : List UInt8) (h : r.length ≤ 65536) : tblob (blob r ++ rest) = (0, r, 4 + r.length) := by
  have e : blob r ++ rest = be r.length 4 ++ (r ++ rest) := by simp [blob]
  have hc := tcount_be r.length 65536 (r ++ rest) h h
  unfold tblob
  rw [e, hc]
  simp only [ne_eq, not_true_eq_false, if_false]
  rw [if_neg (by simp [be_length]), drop_be4, List.take_append_of_le_length (by omega), List.take_of_length_le (by omega)]

theorem tblob_cut (r rest : List UInt8) (k : Nat) (h : r.length ≤ 65536) (hk : k < 4 + r.length) : tblob ((blob r ++ rest).take k) = (3, [], 0) := by
  by_cases h4 : k < 4
  · unfold tblob
    rw [tcount_short _ _ (by simp; omega)]
    simp
  · have e : (blob r ++ rest).take k = be r.length 4 ++ (r ++ rest).take (k - 4) := by
      rw [show blob r ++ rest = be r.length 4 ++ (r ++ rest) by simp [blob], List.take_append, be_length, List.take_of_length_le (by rw [be_length]; omega)]
    have hc := tcount_be r.length 65536 ((r ++ rest).take (k - 4)) h h
    unfold tblob
    rw [e, hc]
    simp only [ne_eq, not_true_eq_false, if_false]
    rw [if_pos (by simp [be_length]; omega)]

theorem blobs_cons (r : List UInt8) (rows : List (List UInt8)) : blobs (r :: rows) = blob r ++ blobs rows := by simp [blobs]

theorem trows_blobs : ∀ (rows : List (List UInt8)) (pre rest : List UInt8), fits rows → trows (pre ++ (blobs rows ++ rest)) rows.length pre.length = (0, rows, pre.length + (blobs rows).length)
  | [], pre, rest, _ => by simp [trows, blobs]
  | r :: rows, pre, rest, h => by
    have hr := h r (by simp)
    have ht := trows_blobs rows (pre ++ blob r) rest fun x hx => h x (by simp [hx])
    have hd : (pre ++ (blobs (r :: rows) ++ rest)).drop pre.length = blob r ++ (blobs rows ++ rest) := by
      rw [List.drop_left, blobs_cons, List.append_assoc]
    have hb := tblob_blob r (blobs rows ++ rest) hr
    have e1 : pre ++ blob r ++ (blobs rows ++ rest) = pre ++ (blobs (r :: rows) ++ rest) := by simp [blobs_cons]
    have e2 : (pre ++ blob r).length = pre.length + (4 + r.length) := by simp [blob_length]
    rw [e1, e2] at ht
    rw [List.length_cons, trows, hd, hb]
    simp only [ne_eq, not_true_eq_false, if_false, ht]
    simp [blobs_cons, blob_length]
    omega

theorem trow_row (rows : List (List UInt8)) (rest : List UInt8) (hl : rows.length ≤ 4096) (h : fits rows) : trow (rowBytes rows ++ rest) = (0, rows, (rowBytes rows).length) := by
  have hc := tcount_be rows.length 4096 (blobs rows ++ rest) (by omega) hl
  have ht := trows_blobs rows (be rows.length 4) rest h
  rw [be_length] at ht
  have e : rowBytes rows ++ rest = be rows.length 4 ++ (blobs rows ++ rest) := by simp [rowBytes]
  rw [e, trow, hc]
  simp only [ne_eq, not_true_eq_false, if_false, ht]
  simp [rowBytes, be_length]

theorem trows_cut : ∀ (rows : List (List UInt8)) (pre : List UInt8) (k : Nat), fits rows → k < (blobs rows).length → trows (pre ++ (blobs rows).take k) rows.length pre.length = (3, [], 0)
  | [], pre, k, _, hk => by simp [blobs] at hk
  | r :: rows, pre, k, h, hk => by
    have hr := h r (by simp)
    have hd : (pre ++ (blobs (r :: rows)).take k).drop pre.length = (blob r ++ blobs rows).take k := by rw [List.drop_left, blobs_cons]
    rw [List.length_cons, trows, hd]
    by_cases hlt : k < 4 + r.length
    · rw [tblob_cut r (blobs rows) k hr hlt]
      simp
    · have e : (blob r ++ blobs rows).take k = blob r ++ (blobs rows).take (k - (4 + r.length)) := by
        rw [List.take_append, blob_length, List.take_of_length_le (by rw [blob_length]; omega)]
      have hk2 : k - (4 + r.length) < (blobs rows).length := by
        rw [blobs_cons, List.length_append, blob_length] at hk
        omega
      have ht := trows_cut rows (pre ++ blob r) (k - (4 + r.length)) (fun x hx => h x (by simp [hx])) hk2
      have e1 : pre ++ blob r ++ (blobs rows).take (k - (4 + r.length)) = pre ++ (blobs (r :: rows)).take k := by
        rw [blobs_cons, e, List.append_assoc]
      have e2 : (pre ++ blob r).length = pre.length + (4 + r.length) := by simp [blob_length]
      rw [e1, e2] at ht
      rw [e, tblob_blob r _ hr]
      simp only [ne_eq, not_true_eq_false, if_false, ht]
      simp

theorem trow_cut (rows : List (List UInt8)) (k : Nat) (hl : rows.length ≤ 4096) (h : fits rows) (hk : k < (rowBytes rows).length) : trow ((rowBytes rows).take k) = (3, [], 0) := by
  by_cases h4 : k < 4
  · unfold trow
    rw [tcount_short _ _ (by simp; omega)]
    simp
  · have e : (rowBytes rows).take k = be rows.length 4 ++ (blobs rows).take (k - 4) := by
      rw [rowBytes, List.take_append, be_length, List.take_of_length_le (by rw [be_length]; omega)]
    have hk2 : k - 4 < (blobs rows).length := by
      rw [rowBytes, List.length_append, be_length] at hk
      omega
    have hc := tcount_be rows.length 4096 ((blobs rows).take (k - 4)) (by omega) hl
    have ht := trows_cut rows (be rows.length 4) (k - 4) h hk2
    rw [be_length] at ht
    rw [e, trow, hc]
    simp only [ne_eq, not_true_eq_false, if_false, ht]
end Go.Proofs.YtomfhihhhfelfaaDoor
