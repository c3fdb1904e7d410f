/- The law DigestApart, walked: what is summed tells name and parts apart. -/
import Derived.Test.YtomfhihhhfelfaaDoorKitD
import Derived.Test.YtomfhihhhfelfaaDoorCodec
import Derived.Test.YtomfhihhhfelfaaDoorOfD
namespace Go.Proofs.YtomfhihhhfelfaaDoor
open Go.RowKit
set_option linter.unusedVariables false

theorem text_inj (n m : List UInt8) (r q : List (List UInt8)) (h1 : (textOf n r).1 = 0) (h2 : (textOf m q).1 = 0) : (textOf n r).2 = (textOf m q).2 ↔ n = m ∧ r = q := by
  have key : ∀ (n : List UInt8) (r : List (List UInt8)), (textOf n r).1 = 0 → trow (textOf n r).2 = (0, n :: r, (rowBytes (n :: r)).length) := by
    intro n r h
    unfold textOf at h ⊢
    split at h
    · simp at h
    · rename_i hn
      rw [if_neg hn]
      obtain ⟨k1, k2, k3⟩ := rowOf_ok _ h
      rw [k3]
      have := trow_row (n :: r) [] k1 k2
      rwa [List.append_nil] at this
  constructor
  · intro e
    have e1 := key n r h1
    rw [e, key m q h2] at e1
    simp only [Prod.mk.injEq, List.cons.injEq] at e1
    exact ⟨e1.2.1.1.symm, e1.2.1.2.symm⟩
  · rintro ⟨rfl, rfl⟩
    rfl

set_option maxHeartbeats 4000000 in
theorem sameRows_dec (B C : Nat) (aa ab : Option Addr) (ca cb : Nat) (ra rb : List (List UInt8)) (w : World) (ha : Lists B w (.slice aa ra.length ca) ra) (hb : Lists C w (.slice ab rb.length cb) rb) (hla : ra.length ≤ 9223372036854775807) (hlb : rb.length ≤ 9223372036854775807) :
    Calls Tryd.prog 23 #[.slice aa ra.length ca, .slice ab rb.length cb] w fun e w' => e = .returned (.bool (decide (ra = rb))) ∧ Below w.heap.size w w' := by
  have HA := hid ha
  have HB := hid hb
  clear ha hb
  by_cases hne : ra.length = rb.length
  · have hn2 : ((ra.length : Int) != (rb.length : Int)) = false := by rw [hne]; simp
    go_enter Tryd.func23, Tryd.ntmps23
    go_wp2_with fail
    go_loopw [5] (fun i wr => ∃ k : Nat, k ≤ ra.length ∧ i = .int .i64 k ∧ Hid (∀ D, Below D w wr) ∧ Hid (∀ j, j < k → ra[j]? = rb[j]?)) (fun i _ => ra.length - (intOf i).toNat)
    case atStart => exact ⟨0, Nat.zero_le _, rfl, hid (fun D => Below.refl _ _), hid (fun j hj => by omega)⟩
    case round =>
      obtain ⟨k, hk, rfl, HD, HE⟩ := hrel
      by_cases hlt : k < ra.length
      · obtain ⟨b1, o1, a1, c1, rfl, hc1, hs1⟩ := (HA.out.below (HD.out B)).at k hlt
        obtain ⟨b2, o2, a2, c2, rfl, hc2, hs2⟩ := (HB.out.below (HD.out C)).at k (by omega)
        have e1 := fun nq => strs (hs1.drewN nq)
        have e2 := fun nq => strs (hs2.drewN nq)
        have hki : (k : Int) < (ra.length : Int) := by omega
        have hkj : (k : Int) < (rb.length : Int) := by omega
        have hk0 : (0 : Int) ≤ (k : Int) := by omega
        have hq := str_beq (ra[k]?.getD []) (rb[k]?.getD [])
        have HRA : Hid (ra[k]? = some (ra[k]?.getD [])) := hid (by rw [List.getElem?_eq_getElem hlt]; rfl)
        have HRB : Hid (rb[k]? = some (rb[k]?.getD [])) := hid (by rw [List.getElem?_eq_getElem (by omega)]; rfl)
        generalize ra[k]?.getD [] = r1 at *
        generalize rb[k]?.getD [] = r2 at *
        clear hs1 hs2
        by_cases hrr : r1 = r2
        · rw [decide_eq_true hrr] at hq
          have HRR := hid hrr
          clear hrr
          go_wp2_with fail
          go_quiet (fail)
          go_wp2_with fail
          go_roundw
          case rel =>
            refine ⟨k + 1, by omega, by go_num, hid (fun D => below_drewN (HD.out D) _), hid (fun j hj => ?_)⟩
            rcases Nat.lt_or_ge j k with h | h
            · exact HE.out j h
            · rw [show j = k by omega, HRA.out, HRB.out, HRR.out]
          case measure => simp [intOf]; omega
        · rw [decide_eq_false hrr] at hq
          have HF : Hid (decide (ra = rb) = false) := hid (decide_eq_false (fun e => by
            have h1 := HRA.out
            have h2 := HRB.out
            rw [e, h2] at h1
            exact hrr (Option.some.inj h1).symm))
          clear hrr
          go_wp2_with fail
          go_quiet (fail)
          go_wp2_with fail
          go_ret
          exact ⟨by rw [HF.out]; rfl, below_drewN (HD.out _) _⟩
      · have HF : Hid (decide (ra = rb) = true) := hid (decide_eq_true (List.ext_getElem? fun j => by
          rcases Nat.lt_or_ge j ra.length with h | h
          · exact HE.out j (by omega)
          · rw [List.getElem?_eq_none h, List.getElem?_eq_none (by omega)]))
        go_wp2
        go_ret
        exact ⟨by rw [HF.out]; rfl, HD.out _⟩
  · have HF : Hid (decide (ra = rb) = false) := hid (decide_eq_false (fun e => hne (by rw [e])))
    have hn2 : ((ra.length : Int) != (rb.length : Int)) = true := by rw [bne_iff_ne]; omega
    go_enter Tryd.func23, Tryd.ntmps23
    go_wp2
    go_ret
    exact ⟨by rw [HF.out]; rfl, Below.refl _ _⟩

set_option maxRecDepth 100000 in
set_option maxHeartbeats 16000000 in
theorem apart_law (s : ByteArray) (va : Value) (ra : List (List UInt8)) (o : ByteArray) (vb : Value) (rb : List (List UInt8)) (w : World) (hs : s.size ≤ 140737488351232) (hLa : Lists w.heap.size w va ra) (hna : ∀ l c', va = .slice none l c' → c' = 0) (hra : ra.length * 24 ≤ 140737488351232)
    (ho : o.size ≤ 140737488351232) (hLb : Lists w.heap.size w vb rb) (hnb : ∀ l c', vb = .slice none l c' → c' = 0) (hrb : rb.length * 24 ≤ 140737488351232) (ht : Tables w) :
    Calls Tryd.prog 6 #[.string s, va, .string o, vb] w fun e w' => e = .returned (.bool true) ∧ Below w.heap.size w w' := by
  have hw1 := ht.lt
  have HT1 := hid (fun W hB hL => text_any w.heap.size s va ra W (by unfold maxLen; omega) hB hL hna hra)
  have HT2 := hid (fun W hB hL => text_any w.heap.size o vb rb W (by unfold maxLen; omega) hB hL hnb hrb)
  have HE1 := hid (textOf_err s.data.toList ra)
  have HE2 := hid (textOf_err o.data.toList rb)
  have HIN := hid (text_inj s.data.toList o.data.toList ra rb)
  have hSO := bytes_beq s o
  generalize textOf s.data.toList ra = T at *
  generalize textOf o.data.toList rb = U at *
  go_enter Tryd.func6, Tryd.ntmps6
  go_wp2_with fail
  refine (small_any w ht).mono ?_
  rintro e w1 ⟨rfl, hb1⟩
  have hsz1 := hb1.size
  go_wp2_with fail
  refine (HT1.out w1 hsz1 (hLa.below hb1)).mono ?_
  rintro e w2 ⟨v2, rfl, hown2, hb2⟩
  have hbel2 := hb1.trans (hb2.mono hsz1)
  have hsh2 := (shows_of_owns hown2).2
  have hsz2 := hbel2.size
  clear hb1 hb2 hown2
  go_wp2_with fail
  refine (HT2.out w2 hsz2 (hLb.below hbel2)).mono ?_
  rintro e w3 ⟨v3, rfl, hown3, hb3⟩
  have hbel3 := hbel2.trans (hb3.mono hsz2)
  have hsh2' := hsh2.below hb3
  have hsh3 := (shows_of_owns hown3).2
  have hsz3 := hbel3.size
  have hs23 := hb3.size
  clear hb3 hown3 hsh2 HT1 HT2
  have hLa0 := hLa
  have hLb0 := hLb
  obtain ⟨aa, ca, _, rfl, _, _, _⟩ := hLa
  obtain ⟨ab, cb, _, rfl, _, _, _⟩ := hLb
  have HSR := hid (sameRows_dec w.heap.size w.heap.size aa ab ca cb ra rb w3 (hLa0.below hbel3) (hLb0.below hbel3) (by omega) (by omega))
  obtain ⟨a2, c2, hv2, _⟩ := id hsh2'
  obtain ⟨a3, c3, hv3, _⟩ := id hsh3
  have hs1 := fun (W : World) (h : Below w3.heap.size w3 W) => strs ((hsh2'.mono hs23).below h)
  have hs2 := fun (W : World) (h : Below w3.heap.size w3 W) => strs (hsh3.below h)
  have HS1 := hid hs1
  have HS2 := hid hs2
  clear hs1 hs2
  rcases HE1.out with hz1 | ⟨hz1, hz1'⟩
  · rcases HE2.out with hz2 | ⟨hz2, hz2'⟩
    · have HII := hid (HIN.out hz1 hz2)
      rw [hz1, hz2]
      by_cases hN : s.data.toList = o.data.toList
      · rw [decide_eq_true hN] at hSO
        have hTU : ((str8 T.2).toList == (str8 U.2).toList) = decide (ra = rb) := by
          rw [str_beq]
          by_cases h : ra = rb
          · rw [decide_eq_true h, decide_eq_true (HII.out.2 ⟨hN, h⟩)]
          · rw [decide_eq_false h, decide_eq_false (fun e => h (HII.out.1 e).2)]
        generalize decide (ra = rb) = D at *
        clear hLa0 hLb0 hsh2' hsh3 hv2 hv3 hN
        go_wp2_with fail
        refine HSR.out.mono ?_
        rintro e w4 ⟨rfl, hb4⟩
        have hbel4 := hbel3.trans (hb4.mono hsz3)
        have k1 := HS1.out w4 hb4
        have k2 := HS2.out w4 hb4
        clear hb4
        go_wp2
        go_ret
        exact ⟨by simp, hbel4⟩
      · rw [decide_eq_false hN] at hSO
        have hTU : ((str8 T.2).toList == (str8 U.2).toList) = false := by
          rw [str_beq, decide_eq_false (fun e => hN (HII.out.1 e).1)]
        have k1 := HS1.out w3 (Below.refl _ _)
        have k2 := HS2.out w3 (Below.refl _ _)
        clear hLa0 hLb0 hsh2' hsh3 hv2 hv3 hN
        go_wp2
        go_ret
        exact ⟨rfl, hbel3⟩
    · rw [hz2', List.length_nil] at hv3
      rw [hz1, hz2, hv3]
      clear hLa0 hLb0 hsh2' hsh3 hv2 hv3
      go_wp2
      go_ret
      exact ⟨rfl, hbel3⟩
  · rw [hz1', List.length_nil] at hv2
    rw [hz1, hv2]
    rcases HE2.out with hz2 | ⟨hz2, hz2'⟩
    · rw [hz2]
      clear hLa0 hLb0 hsh2' hsh3 hv2 hv3
      go_wp2
      go_ret
      exact ⟨rfl, hbel3⟩
    · rw [hz2', List.length_nil] at hv3
      rw [hz2, hv3]
      clear hLa0 hLb0 hsh2' hsh3 hv2 hv3
      go_wp2
      go_ret
      exact ⟨rfl, hbel3⟩
end Go.Proofs.YtomfhihhhfelfaaDoor
