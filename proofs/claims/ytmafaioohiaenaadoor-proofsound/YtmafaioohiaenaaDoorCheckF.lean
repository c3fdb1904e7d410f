/- Contracts of proof.rootOf, Check. -/
import Derived.Test.YtmafaioohiaenaaDoorTexF
import Derived.Test.YtmafaioohiaenaaDoorEqD
namespace Go.Proofs.YtmafaioohiaenaaDoor
open Go.RowKit Go.Shelf
set_option linter.unusedVariables false
set_option linter.unusedSimpArgs false
set_option maxRecDepth 20000

theorem sum_eq_at (d : Nat) (xs bs : List UInt8) (hla : xs.length = 32) (hlb : bs.length = 32) (w : World) (hd : ∀ a b : Int, (Op.equalIn d 5 (.int .u8 a) (.int .u8 b)).run Tryd.prog w = .ok (a == b) w) :
    (Op.equalIn (d + 1) 23 (.agg (xs.map by8).toArray) (.agg (bs.map by8).toArray)).run Tryd.prog w = .ok (decide (xs = bs)) w := by
  have hz : (sizeOf 5).run Tryd.prog w = .ok 1 w := by simp [go_sem]
  simp only [Op.equalIn, Sem.run_bind, run_underlying Tryd.underlying23, Result.andThen_ok, hz]
  have hp : ∀ (cs : List UInt8), cs.length = 32 → ∀ i, i < 32 → (Go.part 5 (cs.map by8).toArray (i * 1)).run Tryd.prog w = .ok (.int .u8 ((cs[i]?.getD 0).toNat : Int)) w := fun cs hl i hi => by
    have h1 : (cs.map by8).toArray[i * 1]? = some (.int .u8 ((cs[i]?.getD 0).toNat : Int)) := by simp [hl, hi, by8]
    simp only [Nat.mul_one] at h1 ⊢
    simp [Go.part, h1, go_sem]
  rw [Std.Legacy.Range.forIn_eq_forIn_range']
  have hall : ∀ i ∈ List.range' 0 32 1, i < 32 := by decide
  have hdec : decide (xs = bs) = decide (∀ i ∈ List.range' 0 32 1, xs[i]?.getD 0 = bs[i]?.getD 0) := by
    refine decide_eq_decide.2 ⟨fun e i _ => by rw [e], fun h => ?_⟩
    refine List.ext_getElem (by omega) fun i h1 h2 => ?_
    have := h i (by simp; omega)
    rw [List.getElem?_eq_getElem h1, List.getElem?_eq_getElem h2] at this
    simpa using this
  rw [hdec]
  show ((Sem.run Tryd.prog (forIn (List.range' 0 32 1) _ _) w).andThen _) = _
  clear hdec
  generalize List.range' 0 32 1 = l at *
  induction l with
  | nil => simp
  | cons i l ih =>
    simp only [List.forIn_cons, Sem.run_bind, hp xs hla i (hall i (by simp)), hp bs hlb i (hall i (by simp)), Result.andThen_ok, hd]
    by_cases he : xs[i]?.getD 0 = bs[i]?.getD 0
    · have e1 : (((xs[i]?.getD 0).toNat : Int) == ((bs[i]?.getD 0).toNat : Int)) = true := by rw [he]; simp
      have e2 : decide (∀ j ∈ i :: l, xs[j]?.getD 0 = bs[j]?.getD 0) = decide (∀ j ∈ l, xs[j]?.getD 0 = bs[j]?.getD 0) := decide_eq_decide.2 ⟨fun h j hj => h j (by simp [hj]), fun h j hj => by
        rcases List.mem_cons.1 hj with rfl | hj
        · exact he
        · exact h j hj⟩
      rw [e2]
      simp only [e1, Bool.not_true, Bool.false_eq_true, if_false, Sem.run_pure, Result.andThen_ok]
      exact ih (fun j hj => hall j (by simp [hj]))
    · have e1 : (((xs[i]?.getD 0).toNat : Int) == ((bs[i]?.getD 0).toNat : Int)) = false := by
        rw [beq_eq_false_iff_ne]
        intro e
        exact he (UInt8.toNat_inj.1 (by exact_mod_cast e))
      have e2 : decide (∀ j ∈ i :: l, xs[j]?.getD 0 = bs[j]?.getD 0) = false := decide_eq_false (fun h => he (h i (by simp)))
      rw [e2]
      simp [e1]

theorem eq_sum (a b : List UInt8) (ha : a.length = 32) (hb : b.length = 32) (w : World) : (Op.equalIn 10000 23 (.agg (sumV a)) (.agg (sumV b))).run Tryd.prog w = .ok (decide (a = b)) w :=
  sum_eq_at 9999 a b ha hb w (fun a b => by rw [show (9999 : Nat) = 9998 + 1 from rfl, run_equalIn_int w 9998 5 .u8 .u8 a b Tryd.underlying5])

theorem rowsAt_nil (w : World) (B : Nat) : RowsAt w B (.slice none 0 0) [] := ⟨[], World.ownsRow_nil _ _ _ _, RowsOwn.nil _ _⟩

set_option maxHeartbeats 2000000 in
theorem ptexts_any (B : Nat) (p : Prf) (kv vv sv : Value) (w : World) (hB : B ≤ w.heap.size) (hp : PAt B w p kv vv sv) (hT : Tables w) :
    Calls Tryd.prog 13 #[.agg #[.bool p.no, kv, vv, sv]] w fun e w' => ∃ rv, e = .returned rv ∧ RowsAt w' w.heap.size rv p.texts ∧ Below w.heap.size w w' := by
  cases hm : p.may with
  | true =>
    have := texts_in B p kv vv sv w hB hp hT hm
    simp only [Prf.texts, hm, if_true]
    exact this
  | false =>
    simp only [Prf.texts, hm, Bool.false_eq_true, if_false]
    obtain ⟨ka, kc, rfl, hk1, hk2, _⟩ := id hp.hk
    obtain ⟨va, vc, rfl, hv1, hv2, _⟩ := id hp.hv
    obtain ⟨sa, sc, rfl, hs1, hs2⟩ := hp.hs.form
    have hbn : Below w.heap.size w (w.alloc (.cells #[.bool p.no, .slice ka p.k.length kc, .slice va p.v.length vc, .slice sa p.st.length sc] 29)) := (Below.refl _ _).alloc (Nat.le_refl _) _
    have HM := may_any B p _ _ _ _ (by have := hbn.size; omega) (hp.below (hbn.mono hB))
    rw [hm] at HM
    clear hp
    refine (callsIn_wide (n := 3)).1 ?_
    refine callsIn_of_wp_marks Tryd.func13 rfl trivial ?_ rfl
    simp only [Tryd.ntmps13, List.size_toArray, List.length_cons, List.length_nil, Nat.reduceAdd, Nat.reduceSub, Array.replicate_succ, Array.replicate_zero, List.push_toArray, List.append_toArray, List.nil_append, List.cons_append]
    gi_wp2_with (refine ⟨trivial, ?_⟩; first
      | (gi_at_call 44; refine (callsIn_wide.2 HM).mono ?_; clear HM; rintro e w1 ⟨rfl, hb1⟩))
    exact ⟨_, results_tmp (t := 2) rfl _ _ _, _, rfl, rowsAt_nil _ _, hbn.trans (hb1.mono hbn.size)⟩

/-- Its root. -/
def Prf.root (p : Prf) : List UInt8 := sha (topU p.endZ p.st.reverse)

theorem topU_le (p : Prf) (L : List Zst) : (topU p.endZ L).length ≤ 1099511627776 := by
  rcases List.eq_nil_or_concat L with e | ⟨r, q, e⟩
  · rw [e]; exact endZ_le p
  · rw [e, List.concat_eq_append, topU_snoc]; exact stepZ_le _ _

set_option maxHeartbeats 4000000 in
theorem prootOf_any (B : Nat) (p : Prf) (kv vv sv : Value) (w : World) (hB : B ≤ w.heap.size) (hp : PAt B w p kv vv sv) (hT : Tables w) (hm : p.may = true) :
    Calls Tryd.prog 48 #[.agg #[.bool p.no, kv, vv, sv]] w fun e w' => e = .returned (.agg (sumV p.root)) ∧ Below w.heap.size w w' := by
  obtain ⟨ka, kc, rfl, hk1, hk2, _⟩ := id hp.hk
  obtain ⟨va, vc, rfl, hv1, hv2, _⟩ := id hp.hv
  obtain ⟨sa, sc, rfl, hs1, hs2⟩ := hp.hs.form
  obtain ⟨n0, n1, hbn, hsn⟩ := alloc2 w (.cells #[.bool p.no, .slice ka p.k.length kc, .slice va p.v.length vc, .slice sa p.st.length sc] 29) (.cells zero32 23)
  have HTX := texts_in B p _ _ _ _ (by omega) (hp.below (hbn.mono hB)) (hT.below hbn (by have := hT.lt; omega)) hm
  have HS := hid (isSum p.root (sha_length _))
  have HNL := hid (upZ_length p.st.reverse p.endZ)
  have HLast := hid (upZ_last p.st.reverse p.endZ)
  have HRt : Hid (p.root = sha (topU p.endZ p.st.reverse)) := hid rfl
  have HTL := hid (topU_le p p.st.reverse)
  have hml := may_length p hm
  have hlt := hT.lt
  have HT := hid hT
  go_enter Tryd.func48, Tryd.ntmps48
  go_wp2_with fail
  refine HTX.mono ?_
  clear HTX
  rintro e w3 ⟨rv, rfl, ⟨vs, hrow, hown⟩, hb3⟩
  obtain ⟨w2, hw2⟩ : ∃ w2, (w.alloc (.cells #[.bool p.no, .slice ka p.k.length kc, .slice va p.v.length vc, .slice sa p.st.length sc] 29)).alloc (.cells zero32 23) = w2 := ⟨_, rfl⟩
  rw [hw2] at n0 n1 hbn hsn hrow hown hb3
  have hz3 := hb3.size
  obtain ⟨len, hlen⟩ : ∃ len, (upZ p.endZ p.st.reverse).length = len := ⟨_, rfl⟩
  rw [hlen] at hrow HNL
  have hl0 : len = p.st.length + 1 := by have := HNL.out; simpa using this
  obtain ⟨g, cap, rfl, _⟩ := hrow.form (by omega)
  have hvl : vs.length = len := by rw [hown.len, hlen]
  obtain ⟨u, hu⟩ : ∃ u, vs[len - 1]? = some u := ⟨_, List.getElem?_eq_getElem (by omega)⟩
  have hul : (upZ p.endZ p.st.reverse)[len - 1]? = some (topU p.endZ p.st.reverse) := by
    have := HLast.out
    rw [List.getLast?_eq_getElem?, hlen] at this
    exact this
  have hsu : Says w3 u (topU p.endZ p.st.reverse) := (shows_of_owns (hown.own _ _ _ hu hul).1).2
  obtain ⟨ua, uc, rfl, _⟩ := id hsu
  have hcell : w3.cell? ⟨g, len - 1, none⟩ = some (.slice ua (topU p.endZ p.st.reverse).length uc) := (hrow.cellAt (len - 1) (by omega)).trans hu
  have HR := raw_any _ _ (topU p.endZ p.st.reverse) w3 (Nat.le_refl _) hsu HTL.out (HT.out.below (hbn.trans (hb3.mono hbn.size)) (by omega))
  have hN1 := (hb3.block _ (by omega)).trans n1
  have hA : sumV p.root = ((sha (topU p.endZ p.st.reverse)).map by8).toArray := rfl
  rw [← hA] at HR
  clear hA
  obtain ⟨A, hAe⟩ : ∃ A, sumV p.root = A := ⟨_, rfl⟩
  rw [hAe] at HR HS
  have HA := hid hAe
  clear hAe
  generalize topU p.endZ p.st.reverse = tx at *
  have hk : ((len : Nat) : Int) - 1 = ((len - 1 : Nat) : Int) := by omega
  have hk0 : (0 : Int) ≤ ((len - 1 : Nat) : Int) := by omega
  have hk1' : ((len - 1 : Nat) : Int) < (len : Int) := by omega
  have hmb : len - 1 ≤ 1081 := by omega
  have HB3 := hid (hbn.trans (hb3.mono hbn.size))
  have HN1 := hid hN1
  generalize len - 1 = m at *
  clear hrow hown hb3 n0 n1 hbn hsn hp hT hN1 hl0 hul hu hsu HLast HRt hw2 HT hlen HNL hvl hB
  go_wp2_with (first
    | (go_at_call 33; refine HR.mono ?_; clear HR; rintro e w4 ⟨rfl, hb4⟩
       have H4 := hid ((hb4.block _ (block_lt HN1.out)).trans HN1.out)
       have HB4 := hid (HB3.out.trans (hb4.mono HB3.out.size))
       clear hb4)
    | (refine wpList_store_row rfl 23 (.tmp 2) (.tmp 12) rfl (w.heap.size + 1) A rfl rfl 23 zero32 H4.out HS.out.info HS.out.size HS.out.one ?_)
    | (refine bodyPost_ret (v := .agg A) (results_cell_row (p := 2) (ty := 23) rfl _ _ (w.heap.size + 1) 23 A (0, 0) _ rfl (setRow_heap _ _ _ _ _ _ H4.out) Tryd.underlying23 rfl HS.out.info) rfl ⟨by rw [HA.out], below_setRow HB4.out (by omega) _⟩))
end Go.Proofs.YtmafaioohiaenaaDoor
