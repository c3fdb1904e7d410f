/- Contracts of the document's own sets, of the law's ints; the walk of QuorumSets. -/
import Derived.Test.YtkjgipiaamhdlaaSizesQ
import Derived.Deep.RegionHeld3
namespace Go.Proofs.Ytkjgipiaamhdlaa
open Go.RowKit
set_option linter.unusedVariables false
set_option maxRecDepth 20000

theorem rem_two (s k : Nat) : ((s : Int) / 2 ^ k) % 2 = if s.testBit k then 1 else 0 := by
  rw [nat_shift, Nat.testBit_eq_decide_div_mod_eq]
  by_cases h : s / 2 ^ k % 2 = 1
  · simp only [h, decide_true, if_true]
    omega
  · simp only [h, decide_false]
    have : s / 2 ^ k % 2 = 0 := by omega
    simp only [Bool.false_eq_true, if_false]
    omega

set_option maxHeartbeats 1000000 in
theorem zset_any (B : Nat) (v : Value) (l : List Int) (w : World) (hL : Ints B w v l) : Calls Try.prog 18 #[v] w fun e w' => e = .returned (.tuple #[.int .i64 (setV l), .int .i64 (setE l)]) ∧ w' = w := by
  obtain ⟨a, c, rfl, hc1, hc2⟩ := hL.form
  unfold maxLen at hc2
  have HL := hid hL
  clear hL
  go_enter Try.func18, Try.ntmps18
  go_wp2
  go_loopw [4, 5] (fun x i wr => ∃ k : Nat, k ≤ l.length ∧ i = .int .i64 (k : Int) ∧ x = .int .i64 ((setN (l.take k) : Nat) : Int) ∧ Hid (∀ y ∈ l.take k, 1 ≤ y ∧ y ≤ 16) ∧ wr = w) (fun _ i _ => l.length - (intOf i).toNat)
  case atStart => exact ⟨0, by omega, rfl, rfl, hid (by simp), rfl⟩
  case round =>
    obtain ⟨k, hk, rfl, rfl, HJ, rfl⟩ := hrel
    by_cases hlt : k < l.length
    · obtain ⟨b, off, rfl, _, _, hbB, hcell, hi64⟩ := HL.out.at k hlt
      have HX := hid (show l[k] ∈ l from List.getElem_mem hlt)
      have HT := hid (List.take_append_getElem hlt)
      generalize l[k] = x at *
      have hltz : (k : Int) < (l.length : Int) := by omega
      unfold I64 at hi64
      by_cases hx : 1 ≤ x ∧ x ≤ 16
      · have hx1 : ¬ x < 1 := by omega
        have hx2 : ¬ 16 < x := by omega
        obtain ⟨j, rfl⟩ : ∃ j : Nat, x = (j : Int) + 1 := ⟨(x - 1).toNat, by omega⟩
        have hj : j < 16 := by omega
        have hw := wrap_pow j (by omega)
        have HOR := hid (low_setN HJ.out j hj)
        have HN := hid (show setN (l.take (k + 1)) = setN (l.take k) ||| 2 ^ j by
          rw [← HT.out, setN_snoc, show ((j : Int) + 1 - 1).toNat = j by omega])
        clear hx
        generalize setN (l.take k) = q at *
        go_wp2
        go_roundw
        case rel => 
          refine ⟨k + 1, by omega, by go_num, ?_, hid ?_, by trivial⟩
          · rw [HN.out, ← HOR.out]
          · intro y hy
            rw [← HT.out] at hy
            rcases List.mem_append.1 hy with h | h
            · exact HJ.out y h
            · simp only [List.mem_singleton] at h
              omega
        case measure => simp only [intOf]; omega
      · have HE := hid (set_bad HX.out hx)
        by_cases hx1 : x < 1
        · clear hx
          go_wp2
          go_ret2
          exact ⟨by rw [HE.out.1, HE.out.2]; rfl, rfl⟩
        · have hx2 : 16 < x := by omega
          clear hx
          go_wp2
          go_ret2
          exact ⟨by rw [HE.out.1, HE.out.2]; rfl, rfl⟩
    · have hkl : k = l.length := by omega
      have HE := hid (show setV l = (setN (l.take k) : Int) ∧ setE l = 0 by
        have h := HJ.out
        rw [hkl, List.take_length] at h ⊢
        exact set_ok h)
      have hlt' : ¬ (k : Int) < (l.length : Int) := by omega
      clear hkl
      go_wp2
      go_ret2
      exact ⟨by rw [HE.out.1, HE.out.2]; rfl, rfl⟩

set_option maxHeartbeats 1000000 in
theorem zmembers_any (s : Int) (w : World) (hs : I64 s) : Calls Try.prog 21 #[.int .i64 s] w fun e w' => ∃ v, e = .returned v ∧ w'.ownsRow w.heap.size 3 1 v (memQ s 16).length (intC (memQ s 16)) ∧ Below w.heap.size w w' := by
  unfold I64 at hs
  obtain ⟨i0, hi, hz0, hz1, hz2⟩ := info_parts Try.infoInt
  by_cases h0 : 0 ≤ s ∧ s < 65536
  · have hs0 : ¬ s < 0 := by omega
    have hs1 : ¬ 65536 ≤ s := by omega
    obtain ⟨n, rfl⟩ : ∃ n : Nat, s = n := ⟨s.toNat, by omega⟩
    have hn : n < 65536 := by omega
    have HQ := hid (memQ_nat n hn 16)
    clear h0 hs
    go_enter Try.func21, Try.ntmps21
    go_wp2
    clear hs0 hs1
    go_loopw [3, 4] (fun v i wr => ∃ k : Nat, i = .int .i64 ((k : Int) + 1) ∧ k ≤ 16 ∧ wr.ownsRow w.heap.size 3 1 v (memsN n k).length (memC n k) ∧ Below w.heap.size w wr) (fun _ i _ => (17 - intOf i).toNat)
    case atStart => exact ⟨0, rfl, by omega, World.ownsRow_nil _ _ _ _, Below.refl _ _⟩
    case round =>
      obtain ⟨k, rfl, hk, hown, hbel⟩ := hrel
      have hsz := hbel.size
      by_cases hk16 : k < 16
      · obtain ⟨r, hsh, hr0, hrl, hrem⟩ : ∃ r : Int, (n : Int) / 2 ^ k = r ∧ 0 ≤ r ∧ r < 65536 ∧ r % 2 = if n.testBit k then 1 else 0 :=
          ⟨_, rfl, by rw [nat_shift]; exact Int.natCast_nonneg _, by
            rw [nat_shift]
            exact Int.ofNat_lt.2 (Nat.lt_of_le_of_lt (Nat.div_le_self n (2 ^ k)) hn), rem_two n k⟩
        have hkz : (k : Int) + 1 ≤ 16 := by omega
        by_cases hb : n.testBit k = true
        · rw [if_pos hb] at hrem
          have HB := hid hb
          have HM := hid (memsN_le n k)
          clear hb
          go_wp2_with (first
            | (at_builtin; refine wpList_append_own _ rfl _ _ 28 rfl w.heap.size 3 i0 (.int .i64 0) 1 8 Try.underlying28 hi hz0 hz1 hz2 rfl (by decide) _ _ _ rfl (hown.alloc _) ⟨wr.heap.size, 0, none⟩ 1 1 [.int .i64 ((k : Int) + 1)] rfl rfl ?c1 ?c2 ?c3 ?c4 ?c5 ?_)
            | go_in)
          case c1 =>
            intro j u hj
            match j, hj with
            | 0, hj => simp at hj; subst hj; simp [Addr.add]
          case c2 => intro u hu; simp at hu; subst hu; rfl
          case c3 => have := HM.out; unfold maxLen; omega
          case c4 => have := HM.out; omega
          case c5 => simp; omega
          · intro v' w2 hown' hgrow _
            have hb2 : Below w.heap.size w w2 := (hbel.alloc (by omega) _).grown hgrow (by simp; omega) (fun q hq => (hown.lt q hq).1)
            go_wp2
            go_roundw
            case rel =>
              refine ⟨k + 1, by go_num, by omega, ?_, hb2⟩
              have e : (memsN n (k + 1)).length = (memsN n k).length + 1 := by rw [memsN_succ, HB.out]; simp
              rw [e, memC_succ, HB.out]
              exact hown'
            case measure => simp only [intOf]; omega
        · rw [if_neg hb] at hrem
          have HB := hid hb
          clear hb
          go_wp2
          go_roundw
          case rel =>
            refine ⟨k + 1, by go_num, by omega, ?_, hbel⟩
            have e : memsN n (k + 1) = memsN n k := by rw [memsN_succ, if_neg HB.out]; simp
            have e2 : memC n (k + 1) = memC n k := by rw [memC_succ, if_neg HB.out]; simp
            rw [e, e2]
            exact hown
          case measure => simp only [intOf]; omega
      · have e : k = 16 := by omega
        have hkz : ¬ (k : Int) + 1 ≤ 16 := by omega
        have HK := hid e
        clear e
        go_wp2
        go_ret
        refine ⟨_, rfl, ?_, hbel⟩
        rw [HQ.out, List.length_map, show min (16 : Int).toNat 16 = k from HK.out.symm]
        exact hown
  · have HQ := hid (memQ_none h0 16)
    rw [HQ.out]
    by_cases hs0 : s < 0
    · clear h0
      go_enter Try.func21, Try.ntmps21
      go_wp2
      go_ret
      exact ⟨_, rfl, World.ownsRow_nil _ _ _ _, Below.refl _ _⟩
    · have hs1 : 65536 ≤ s := by omega
      clear h0
      go_enter Try.func21, Try.ntmps21
      go_wp2
      go_ret
      exact ⟨_, rfl, World.ownsRow_nil _ _ _ _, Below.refl _ _⟩

set_option maxHeartbeats 1000000 in
theorem zcount_any (s : Int) (w : World) (hs : I64 s) : Calls Try.prog 23 #[.int .i64 s] w fun e w' => e = .returned (.int .i64 ((memQ s 16).length : Int)) ∧ Below w.heap.size w w' := by
  go_enter Try.func23, Try.ntmps23
  go_wp2_with fail
  refine (zmembers_any s w hs).mono ?_
  rintro e w1 ⟨v, rfl, h1, h2⟩
  obtain ⟨a, c, rfl⟩ := owns_form h1
  go_wp2
  go_ret
  exact ⟨rfl, h2⟩

set_option maxHeartbeats 1000000 in
theorem zhas_any (s who : Int) (w : World) (hs : I64 s) (hw : I64 who) : Calls Try.prog 25 #[.int .i64 s, .int .i64 who] w fun e w' => e = .returned (.bool (hasQ s who)) ∧ Below w.heap.size w w' := by
  have HH := hid (hasQ_mem s who)
  go_enter Try.func25, Try.ntmps25
  go_wp2_with fail
  refine (zmembers_any s w hs).mono ?_
  rintro e w1 ⟨v, rfl, ho, hb1⟩
  obtain ⟨a, c, rfl⟩ := owns_form ho
  have hlen := memQ_len s 16
  have HI := hid (show Ints w1.heap.size w1 (.slice a (memQ s 16).length c) (memQ s 16) from ⟨(Cel.of_owns ho).2, fun x hx => by have := memQ_ok s 16 x hx; unfold I64; omega⟩)
  clear ho
  generalize memQ s 16 = l at *
  go_wp2_with fail
  go_loopw [6] (fun i wr => ∃ k : Nat, k ≤ l.length ∧ i = .int .i64 (k : Int) ∧ Hid (who ∉ l.take k) ∧ wr = w1) (fun i _ => l.length - (intOf i).toNat)
  case atStart => exact ⟨0, by omega, rfl, hid (by simp), rfl⟩
  case round =>
    obtain ⟨k, hk, rfl, HJ, rfl⟩ := hrel
    by_cases hlt : k < l.length
    · obtain ⟨b, off, rfl, _, _, hbB, hcell, hi64⟩ := HI.out.at k hlt
      have HX := hid (show l[k] ∈ l from List.getElem_mem hlt)
      have HT := hid (List.take_append_getElem hlt)
      generalize l[k] = x at *
      have hltz : (k : Int) < (l.length : Int) := by omega
      by_cases hx : x = who
      · subst hx
        have HQ := hid (show hasQ s x = true by rw [HH.out]; exact decide_eq_true HX.out)
        go_wp2
        go_ret
        exact ⟨by rw [HQ.out]; rfl, hb1⟩
      · have HN := hid hx
        have hxe : (x == who) = false := by simpa using hx
        clear hx
        go_wp2
        go_roundw
        case rel =>
          refine ⟨k + 1, by omega, by go_num, hid ?_, by trivial⟩
          rw [← HT.out, List.mem_append]
          rintro (h | h)
          · exact HJ.out h
          · simp only [List.mem_singleton] at h
            exact HN.out h.symm
        case measure => simp only [intOf]; omega
    · have hltz : ¬ (k : Int) < (l.length : Int) := by omega
      have HQ := hid (show hasQ s who = false by
        rw [HH.out]
        have h := HJ.out
        rw [List.take_of_length_le (by omega)] at h
        exact decide_eq_false h)
      go_wp2
      go_ret
      exact ⟨by rw [HQ.out]; rfl, hb1⟩

/-- How many of a list are no greater than n. -/
def leC (n : Int) (l : List Int) : Nat := l.countP fun x => decide (x ≤ n)

theorem leC_snoc (n : Int) (l : List Int) (x : Int) : leC n (l ++ [x]) = leC n l + if x ≤ n then 1 else 0 := by
  unfold leC
  rw [List.countP_append]
  by_cases h : x ≤ n <;> simp [h]

theorem memsN_count (s m : Nat) : ∀ k, ((memsN s k).countP fun i => decide (i < m)) = (memsN s (min m k)).length
  | 0 => by simp [memsN]
  | k + 1 => by
    rw [memsN_succ, List.countP_append, memsN_count s m k]
    by_cases h : k < m
    · rw [Nat.min_eq_right (by omega), Nat.min_eq_right (by omega), memsN_succ]
      cases s.testBit k <;> simp [h]
    · rw [Nat.min_eq_left (by omega), Nat.min_eq_left (by omega)]
      cases s.testBit k <;> simp [h]

theorem leC_mem (s n : Int) : leC n (memQ s 16) = (memQ s n).length := by
  unfold memQ leC
  split
  · rename_i h
    rw [List.countP_map, List.length_map]
    have e : min (16 : Int).toNat 16 = 16 := rfl
    rw [e, ← memsN_count]
    refine List.countP_congr fun i _ => ?_
    simp only [Function.comp, decide_eq_true_eq]
    omega
  · simp

set_option maxHeartbeats 1000000 in
theorem zis_any (n s : Int) (w : World) (hn : I64 n) (hs : I64 s) : Calls Try.prog 27 #[.int .i64 n, .int .i64 s] w fun e w' => e = .returned (.bool (isQ n s)) ∧ Below w.heap.size w w' := by
  have hm := mostQ_range n
  have HI := hid (show isQ n s = (decide (0 < mostQ n) && decide (mostQ n ≤ (leC n (memQ s 16) : Int))) by rw [leC_mem]; rfl)
  go_enter Try.func27, Try.ntmps27
  go_wp2_with (go_at_call 14; refine (zmost_any _ _ hn).mono ?_; rintro e w1 ⟨rfl, rfl⟩)
  refine (zmembers_any s _ hs).mono ?_
  rintro e w2 ⟨v, rfl, ho, hb2⟩
  obtain ⟨a, c, rfl⟩ := owns_form ho
  have hlen := memQ_len s 16
  have HL := hid (show Ints w2.heap.size w2 (.slice a (memQ s 16).length c) (memQ s 16) from ⟨(Cel.of_owns ho).2, fun x hx => by have := memQ_ok s 16 x hx; unfold I64; omega⟩)
  clear ho
  generalize memQ s 16 = l at *
  generalize mostQ n = mo at *
  go_wp2_with fail
  go_loopw [7, 8] (fun x i wr => ∃ k : Nat, k ≤ l.length ∧ i = .int .i64 (k : Int) ∧ x = .int .i64 (leC n (l.take k) : Int) ∧ wr = w2) (fun _ i _ => l.length - (intOf i).toNat)
  case atStart => exact ⟨0, by omega, rfl, rfl, rfl⟩
  case round =>
    obtain ⟨k, hk, rfl, rfl, rfl⟩ := hrel
    by_cases hlt : k < l.length
    · obtain ⟨b, off, rfl, _, _, hbB, hcell, hi64⟩ := HL.out.at k hlt
      have HT := hid (List.take_append_getElem hlt)
      have hq : leC n (l.take k) ≤ k := by
        have := List.countP_le_length (p := fun x => decide (x ≤ n)) (l := l.take k)
        unfold leC
        simp at this
        omega
      have HS := hid (leC_snoc n (l.take k) l[k])
      rw [HT.out] at HS
      generalize l[k] = x at *
      generalize leC n (l.take k) = q at *
      have hltz : (k : Int) < (l.length : Int) := by omega
      by_cases hx : x ≤ n
      · have HX := hid (show leC n (l.take (k + 1)) = q + 1 by rw [HS.out, if_pos hx])
        go_wp2
        go_roundw
        case rel => exact ⟨k + 1, by omega, by go_num, by rw [HX.out]; go_num, by trivial⟩
        case measure => simp only [intOf]; omega
      · have HX := hid (show leC n (l.take (k + 1)) = q by rw [HS.out, if_neg hx]; rfl)
        go_wp2
        go_roundw
        case rel => exact ⟨k + 1, by omega, by go_num, by rw [HX.out], by trivial⟩
        case measure => simp only [intOf]; omega
    · have hltz : ¬ (k : Int) < (l.length : Int) := by omega
      have e : l.take k = l := List.take_of_length_le (by omega)
      rw [e]
      clear e
      generalize leC n l = q at *
      by_cases h0 : 0 < mo
      · have HM := hid (decide_eq_true h0)
        go_wp2
        go_ret
        refine ⟨?_, hb2⟩
        rw [HI.out, HM.out, Bool.true_and]
        rfl
      · have HM := hid (decide_eq_false h0)
        go_wp2
        go_ret
        refine ⟨?_, hb2⟩
        rw [HI.out, HM.out]
        rfl
end Go.Proofs.Ytkjgipiaamhdlaa
