/- The law DigestNames, walked. -/
import Derived.Test.YtomfhihhhfelfaaDoorPartsD
import Derived.Test.YtomfhihhhfelfaaDoorRefOf
import Derived.Test.YtomfhihhhfelfaaDoorOwnedK
namespace Go.Proofs.YtomfhihhhfelfaaDoor
open Go.RowKit
set_option linter.unusedVariables false

/-- A slice that is owned, its form. -/
theorem own_form {w : World} {B e n : Nat} {v : Value} {xs : List Value} (h : w.ownsRow B e 1 v n xs) : ∃ a c, v = .slice a n c := by
  rcases h.2 with ⟨e, h0⟩ | ⟨g, cap, _, e, _⟩
  · exact ⟨none, 0, by rw [e, h0]⟩
  · exact ⟨_, _, e⟩

theorem marked_nil0 (B : Nat) (w : World) : Marked B w [] 0 := fun j v hv => by simp at hv

theorem marked_cons {B : Nat} {w : World} {x : Value} {xs : List Value} {vs : List Value} (hx : Full B w x xs) (h : Marked B w vs 0) : Marked B w (x :: vs) 0 := by
  intro j v hv
  match j, hv with
  | 0, hv => simp at hv; subst hv; exact ⟨xs, hx, fun h => by omega⟩
  | j + 1, hv =>
    obtain ⟨ys, hf, _⟩ := h j v (by simpa using hv)
    exact ⟨ys, hf, fun h => by omega⟩

theorem apart_nil : Apart [] := fun i j u v g hu => by simp at hu

/-- One more, whose block is none of the others'. -/
theorem apart_cons {x : Value} {vs : List Value} (h : Apart vs) (hx : ∀ g, x.ownBlock = some g → ∀ v ∈ vs, v.ownBlock ≠ some g) : Apart (x :: vs) := by
  intro i j u v g hu hv hij hg hv2
  match i, j, hu, hv with
  | 0, 0, _, _ => exact hij rfl
  | 0, j + 1, hu, hv =>
    simp at hu
    subst hu
    exact hx g hg v (List.mem_of_getElem? (by simpa using hv)) hv2
  | i + 1, 0, hu, hv =>
    simp at hv
    subst hv
    exact hx g hv2 u (List.mem_of_getElem? (by simpa using hu)) hg
  | i + 1, j + 1, hu, hv => exact h i j u v g (by simpa using hu) (by simpa using hv) (by omega) hg hv2

theorem ofOf_length (name : List UInt8) (rows : List (List UInt8)) : (ofOf name rows).2.length = 32 := by
  unfold ofOf
  split
  · exact sha_length _
  · simp

theorem one_cell_two (w : World) (v : Value) (e : TypeId) : ∀ (j : Nat) (u : Value), [v][j]? = some u → ((w.alloc (.cells #[] e)).alloc (.cells #[v] e)).cell? ((⟨w.heap.size + 1, 0, none⟩ : Addr).add j) = some u := by
  have := one_cell (w.alloc (.cells #[] e)) v e
  rwa [show (w.alloc (.cells #[] e)).heap.size = w.heap.size + 1 by simp] at this

set_option maxRecDepth 100000 in
set_option maxHeartbeats 16000000 in
theorem names_few (s : ByteArray) (a : Option Addr) (c : Nat) (rows : List (List UInt8)) (w : World) (hs : s.size ≤ 140737488351232) (hL : Lists w.heap.size w (.slice a rows.length c) rows) (hnl : ∀ l c', Value.slice a rows.length c = .slice none l c' → c' = 0) (hr : rows.length * 24 ≤ 140737488351232) (ht : Tables w) (h20 : rows.length ≤ 20) :
    Calls Tryd.prog 4 #[.string s, .slice a rows.length c] w fun e w' => e = .returned (.bool true) ∧ Below w.heap.size w w' := by
  obtain ⟨i0, hi, hz0, hz1, hz2⟩ := info_parts Tryd.infoRow
  have hw1 := ht.lt
  go_enter Tryd.func4, Tryd.ntmps4
  go_wp2_with fail
  refine (small_any w ht).mono ?_
  rintro e w1 ⟨rfl, hb1⟩
  have hsz1 := hb1.size
  have hL1 := hL.below hb1
  go_wp2_with fail
  go_loop [6, 7] (fun n i => ∃ k : Nat, k ≤ rows.length ∧ i = .int .i64 k ∧ n = .int .i64 k) (fun _ i => rows.length - (intOf i).toNat)
  case atStart => exact ⟨0, Nat.zero_le _, rfl, rfl⟩
  case round =>
    obtain ⟨k, hk, rfl, rfl⟩ := hrel
    by_cases hlt : k < rows.length
    · obtain ⟨b, off, ak, ck, rfl, hcell, hsh⟩ := hL1.at k hlt
      have hmax : (rows[k]?.getD []).length ≤ 9223372036854775807 := by obtain ⟨_, _, e, h1, h2, _⟩ := hsh; unfold maxLen at h2; omega
      have k20 : (k : Int) < 20 := by omega
      have kr : (k : Int) < (rows.length : Int) := by omega
      generalize rows[k]?.getD [] = r at *
      clear hsh
      by_cases hbg : 4096 < r.length
      · have q1 : (4096 : Int) < (r.length : Int) := by omega
        by_cases hle : r.length ≤ 65536
        · have q2 : (r.length : Int) ≤ 65536 := by omega
          go_wp2
          go_ret
          exact ⟨rfl, hb1⟩
        · have q2 : decide ((r.length : Int) ≤ 65536) = false := decide_eq_false (by omega)
          go_wp2
          go_round
          case rel => exact ⟨k + 1, by omega, by go_num, by go_num⟩
          case measure => simp [intOf]; omega
      · have q1 : decide ((4096 : Int) < (r.length : Int)) = false := decide_eq_false (by omega)
        go_wp2
        go_round
        case rel => exact ⟨k + 1, by omega, by go_num, by go_num⟩
        case measure => simp [intOf]; omega
    · have hkr : k = rows.length := by omega
      subst hkr
      have q1 : decide ((rows.length : Int) < (rows.length : Int)) = false := decide_eq_false (by omega)
      have HTX := hid (text_any w.heap.size s (.slice a rows.length c) rows w1 (by unfold maxLen; omega) hsz1 hL1 hnl hr)
      have HOL := hid (ofOf_length s.data.toList rows)
      have HOF := hid (fun W hB hL ht => of_any w.heap.size s (.slice a rows.length c) rows W (by unfold maxLen; omega) hB hL hnl hr ht)
      have HRT := hid (fun W hB hL => refText_any w.heap.size s (.slice a rows.length c) rows W (by unfold maxLen; omega) hB hL hnl hr)
      have HRO := hid (fun W hB hL => refOf_any w.heap.size s (.slice a rows.length c) rows W (by unfold maxLen; omega) hB hL hnl hr)
      generalize textOf s.data.toList rows = T at *
      generalize ofOf s.data.toList rows = O at *
      obtain ⟨f1, f2, f3⟩ := sum_facts O.2 HOL.out
      have hEQ := eql_sum O.2 HOL.out
      have HF1 := hid f1
      have HF2 := hid f2
      have HF3 := hid f3
      clear f1 f2 f3
      generalize (O.2.map by8).toArray = cs at *
      go_wp2_with fail
      refine HTX.out.mono ?_
      rintro e w2 ⟨v2, rfl, hown2, hb2⟩
      have hbel2 := hb1.trans (hb2.mono hsz1)
      have hs12 := hb2.size
      have hsz2 := hbel2.size
      obtain ⟨a2, c2, rfl⟩ := own_form hown2
      have HO2 := hid hown2
      have H2LT : ∀ q, (Value.slice a2 T.2.length c2).ownBlock = some q → q < w2.heap.size := fun q hq => (hown2.lt q hq).2
      clear hown2 hb2
      go_wp2_with fail
      refine (HOF.out w2 hsz2 (hL.below hbel2) (ht.below hbel2 (by omega))).mono ?_
      rintro e w3 ⟨rfl, hb3⟩
      have hbel3 := hbel2.trans (hb3.mono hsz2)
      have hsz3 := hbel3.size
      have hs23 := hb3.size
      have HO3 := hid (ownsRow_below HO2.out hb3)
      clear HO2
      obtain ⟨r1, r2, r3⟩ := new_row w3 cs
      have HN1 := hid r1
      have HN2 := hid r2
      have HN3 := hid (Nat.lt_of_lt_of_eq (Nat.lt_succ_self _) r3.symm)
      clear r1 r2 r3
      go_wp2_with (first
        | (refine wpList_store_row rfl 26 (.tmp 10) (.tmp 66) rfl w3.heap.size cs rfl rfl 26 zero32 (heap_alloc_new w3 _) HF1.out HF3.out HF2.out ?_))
      generalize hw4 : World.setRow _ w3.heap.size cs = w4
      have r1 : w4.heap[w3.heap.size]? = some (.cells cs 26 (0, 0)) := by rw [← hw4]; exact HN1.out
      have r2 : Below w3.heap.size w3 w4 := by rw [← hw4]; exact HN2.out
      have r3 : w3.heap.size < w4.heap.size := by rw [← hw4]; exact HN3.out
      clear hw4 HN1 HN2 HN3
      have hbel4 := hbel3.trans (r2.mono hsz3)
      have hsz4 := hbel4.size
      have HO4 := hid (ownsRow_below HO3.out r2)
      clear HO3
      refine (HRT.out w4 hsz4 (hL.below hbel4)).mono ?_
      rintro e w5 ⟨v5, rfl, hown5, hb5⟩
      have hbel5 := hbel4.trans (hb5.mono hsz4)
      have hsz5 := hbel5.size
      have hs45 := hb5.size
      have HO5 := hid (ownsRow_below HO4.out hb5)
      have HR5 := hid ((hb5.block _ (block_lt r1)).trans r1)
      clear HO4 r1 r2
      go_wp2_with fail
      refine (HRO.out w5 hsz5 (hL.below hbel5)).mono ?_
      rintro e w6 ⟨rfl, hb6⟩
      have hbel6 := hbel5.trans (hb6.mono hsz5)
      have hsz6 := hbel6.size
      have hs56 := hb6.size
      have HO6 := hid (ownsRow_below HO5.out hb6)
      have HV6 := hid (ownsRow_below hown5 hb6)
      have HR6 := hid ((hb6.block _ (block_lt HR5.out)).trans HR5.out)
      clear HO5 HR5 hown5 hb5 hb6
      obtain ⟨r1, r2, r4⟩ := new_row w6 cs
      have HN1 := hid r1
      have HN2 := hid r2
      have HN3 := hid (Nat.lt_of_lt_of_eq (Nat.lt_succ_self _) r4.symm)
      clear r1 r2 r4
      go_wp2_with (first
        | (refine wpList_store_row rfl 26 (.tmp 14) (.tmp 78) rfl w6.heap.size cs rfl rfl 26 zero32 (heap_alloc_new w6 _) HF1.out HF3.out HF2.out ?_; generalize hw7 : World.setRow _ w6.heap.size cs = w7; have r1 : w7.heap[w6.heap.size]? = some (.cells cs 26 (0, 0)) := (by rw [← hw7]; exact HN1.out); have r2 : Below w6.heap.size w6 w7 := (by rw [← hw7]; exact HN2.out); have r4 : w6.heap.size < w7.heap.size := (by rw [← hw7]; exact HN3.out); clear hw7; have s2 := strs (shows_of_owns (ownsRow_below HO6.out r2)).2; have s5 := strs (shows_of_owns (ownsRow_below HV6.out r2)).2; have hmade := World.ownsRow_made (base := w7.heap.size) (e := 22) (size := 1) w7 #[] 0 (Nat.le_refl _) (by unfold maxLen; omega) rfl; have HC1 := one_cell_two w7 (.slice a2 T.2.length c2) 22)
        | (at_builtin; refine wpList_append_own _ rfl (.tmp 85) (.tmp 87) 30 rfl w7.heap.size 22 i0 (.slice none 0 0) 1 24 Tryd.underlying30 hi hz0 hz1 hz2 rfl (by decide) _ 0 [] rfl (hmade.alloc _) ⟨w7.heap.size + 1, 0, none⟩ 1 1 [.slice a2 T.2.length c2] rfl rfl ?d1 ?d2 ?d3 ?d4 ?d5 ?_)
        | fail)
      case d1 => exact HC1
      case d2 => intro u hu; simp at hu; subst hu; rfl
      case d3 => unfold maxLen; omega
      case d4 => omega
      case d5 => simp; omega
      intro vA wA hownA hgA _
      go_wp2_with (first
        | (at_builtin; refine wpList_append_own _ rfl (.tmp 88) (.tmp 89) 30 rfl w7.heap.size 22 i0 (.slice none 0 0) 1 24 Tryd.underlying30 hi hz0 hz1 hz2 rfl (by decide) _ _ _ rfl (hownA.alloc _) ⟨wA.heap.size, 0, none⟩ 1 1 [.slice none 0 0] rfl rfl (one_cell _ _ _) ?d2 ?d3 ?d4 ?d5 ?_)
        | fail)
      case d2 => intro u hu; simp at hu; subst hu; rfl
      case d3 => unfold maxLen; omega
      case d4 => omega
      case d5 => have := hgA.size; simp at this ⊢; omega
      intro vB wB hownB hgB _
      have hbA : Below w7.heap.size w7 wA := (((Below.refl _ _).alloc (Nat.le_refl _) _).alloc (by simp) _).grown hgA (by simp; omega) (fun q hq => by have hq' : some w7.heap.size = some q := hq; cases hq'; exact Nat.le_refl _)
      have hbB : Below w7.heap.size w7 wB := (hbA.alloc hbA.size _).grown hgB (by have := hbA.size; simp; omega) (fun q hq => (hownA.lt q hq).1)
      have hsB := hbB.size
      have hb6B : Below w6.heap.size w6 wB := r2.trans (hbB.mono (by omega))
      have hbelB := hbel6.trans (hb6B.mono hsz6)
      have hB1 : wB.heap[w6.heap.size]? = some (.cells cs 26 (0, 0)) := (hbB.block _ (by omega)).trans r1
      have hB2 : wB.heap[w3.heap.size]? = some (.cells cs 26 (0, 0)) := (hb6B.block _ (by omega)).trans HR6.out
      have HOB := hid (ownsRow_below HO6.out hb6B)
      have hlt2 : ∀ q, (Value.slice a2 T.2.length c2).ownBlock = some q → q < w2.heap.size := H2LT
      obtain ⟨xs2, q2⟩ := full_of_owns HOB.out
      have hmk : Marked w1.heap.size wB [.slice a2 T.2.length c2, .slice none 0 0] 0 := marked_cons q2 (marked_cons (.inl ⟨rfl, rfl⟩) (marked_nil0 _ _))
      have hap : Apart [.slice a2 T.2.length c2, .slice none 0 0] := apart_cons (apart_cons apart_nil (fun g hg => by cases hg)) (fun g hg v hv e => by simp at hv; subst hv; cases e)
      have hownB2 : wB.ownsRow w7.heap.size 22 1 vB 2 [.slice a2 T.2.length c2, .slice none 0 0] := by simpa using hownB
      obtain ⟨gr, cc, rfl⟩ := owns_form hownB2 (by omega)
      have HOW := hid (show Calls Tryd.prog 18 #[.slice (some ⟨gr, 0, none⟩) 2 cc] wB _ from owned_keep w1.heap.size gr cc [.slice a2 T.2.length c2, .slice none 0 0] wB (by omega) (ownsRow_mono hownB2 (by omega)) hmk hap (by simp))
      clear hmk hap q2 hownA hownB hownB2 hgA hgB hbA hbB HOB HO6 HV6 HR6 s2 s5 hmade HC1 r1 r2 hb6B
      go_wp2_with fail
      refine HOW.out.mono ?_
      rintro e wo ⟨rfl, hko⟩
      have hk1 : wo.heap[w6.heap.size]? = _ := (hko.2 _ (fun v hv e => by
        simp at hv
        rcases hv with rfl | rfl
        · have := hlt2 _ e; omega
        · cases e)).trans hB1
      have hk2 : wo.heap[w3.heap.size]? = _ := (hko.2 _ (fun v hv e => by
        simp at hv
        rcases hv with rfl | rfl
        · have := hlt2 _ e; omega
        · cases e)).trans hB2
      have HK1 := hid hk1
      have HK2 := hid hk2
      have hfin := hbelB.trans (hko.1.mono hsz1)
      clear hko hk1 hk2 hB1 hB2 HOW hbelB hlt2
      go_wp2_with (first
        | (refine wpList_load_want (by rfl) 26 (.tmp 10) rfl w3.heap.size rfl 26 cs (0, 0) _ _ HK2.out Tryd.underlying26 HF1.out ?_)
        | (refine wpList_load_want (by rfl) 26 (.tmp 14) rfl w6.heap.size rfl 26 cs (0, 0) _ _ HK1.out Tryd.underlying26 HF1.out ?_))
      go_ret
      exact ⟨rfl, hfin⟩

set_option maxRecDepth 100000 in
set_option maxHeartbeats 16000000 in
theorem names_many (s : ByteArray) (a : Option Addr) (c : Nat) (rows : List (List UInt8)) (w : World) (hs : s.size ≤ 140737488351232) (hL : Lists w.heap.size w (.slice a rows.length c) rows) (hnl : ∀ l c', Value.slice a rows.length c = .slice none l c' → c' = 0) (hr : rows.length * 24 ≤ 140737488351232) (ht : Tables w) (h20 : 20 < rows.length) :
    Calls Tryd.prog 4 #[.string s, .slice a rows.length c] w fun e w' => e = .returned (.bool true) ∧ Below w.heap.size w w' := by
  obtain ⟨i0, hi, hz0, hz1, hz2⟩ := info_parts Tryd.infoRow
  have hw1 := ht.lt
  go_enter Tryd.func4, Tryd.ntmps4
  go_wp2_with fail
  refine (small_any w ht).mono ?_
  rintro e w1 ⟨rfl, hb1⟩
  have hsz1 := hb1.size
  have hL1 := hL.below hb1
  go_wp2_with fail
  go_loop [6, 7] (fun n i => ∃ k : Nat, k ≤ 20 ∧ i = .int .i64 k ∧ n = .int .i64 k) (fun _ i => 20 - (intOf i).toNat)
  case atStart => exact ⟨0, Nat.zero_le _, rfl, rfl⟩
  case round =>
    obtain ⟨k, hk, rfl, rfl⟩ := hrel
    by_cases hlt : k < 20
    · obtain ⟨b, off, ak, ck, rfl, hcell, hsh⟩ := hL1.at k (by omega)
      have hmax : (rows[k]?.getD []).length ≤ 9223372036854775807 := by obtain ⟨_, _, e, h1, h2, _⟩ := hsh; unfold maxLen at h2; omega
      have k20 : (k : Int) < 20 := by omega
      have kr : (k : Int) < (rows.length : Int) := by omega
      generalize rows[k]?.getD [] = r at *
      clear hsh
      by_cases hbg : 4096 < r.length
      · have q1 : (4096 : Int) < (r.length : Int) := by omega
        by_cases hle : r.length ≤ 65536
        · have q2 : (r.length : Int) ≤ 65536 := by omega
          go_wp2
          go_ret
          exact ⟨rfl, hb1⟩
        · have q2 : decide ((r.length : Int) ≤ 65536) = false := decide_eq_false (by omega)
          go_wp2
          go_round
          case rel => exact ⟨k + 1, by omega, by go_num, by go_num⟩
          case measure => simp [intOf]; omega
      · have q1 : decide ((4096 : Int) < (r.length : Int)) = false := decide_eq_false (by omega)
        go_wp2
        go_round
        case rel => exact ⟨k + 1, by omega, by go_num, by go_num⟩
        case measure => simp [intOf]; omega
    · have hkr : k = 20 := by omega
      subst hkr
      have q1 : (20 : Int) < (rows.length : Int) := by omega
      by_cases h4 : rows.length ≤ 4096
      · have q2 : (rows.length : Int) ≤ 4096 := by omega
        go_wp2
        go_ret
        exact ⟨rfl, hb1⟩
      · have q2 : decide ((rows.length : Int) ≤ 4096) = false := decide_eq_false (by omega)
        have HTX := hid (text_any w.heap.size s (.slice a rows.length c) rows w1 (by unfold maxLen; omega) hsz1 hL1 hnl hr)
        have HOL := hid (ofOf_length s.data.toList rows)
        have HOF := hid (fun W hB hL ht => of_any w.heap.size s (.slice a rows.length c) rows W (by unfold maxLen; omega) hB hL hnl hr ht)
        have HRT := hid (fun W hB hL => refText_any w.heap.size s (.slice a rows.length c) rows W (by unfold maxLen; omega) hB hL hnl hr)
        have HRO := hid (fun W hB hL => refOf_any w.heap.size s (.slice a rows.length c) rows W (by unfold maxLen; omega) hB hL hnl hr)
        generalize textOf s.data.toList rows = T at *
        generalize ofOf s.data.toList rows = O at *
        obtain ⟨f1, f2, f3⟩ := sum_facts O.2 HOL.out
        have hEQ := eql_sum O.2 HOL.out
        have HF1 := hid f1
        have HF2 := hid f2
        have HF3 := hid f3
        clear f1 f2 f3
        generalize (O.2.map by8).toArray = cs at *
        go_wp2_with fail
        refine HTX.out.mono ?_
        rintro e w2 ⟨v2, rfl, hown2, hb2⟩
        have hbel2 := hb1.trans (hb2.mono hsz1)
        have hs12 := hb2.size
        have hsz2 := hbel2.size
        obtain ⟨a2, c2, rfl⟩ := own_form hown2
        have HO2 := hid hown2
        have H2LT : ∀ q, (Value.slice a2 T.2.length c2).ownBlock = some q → q < w2.heap.size := fun q hq => (hown2.lt q hq).2
        clear hown2 hb2
        go_wp2_with fail
        refine (HOF.out w2 hsz2 (hL.below hbel2) (ht.below hbel2 (by omega))).mono ?_
        rintro e w3 ⟨rfl, hb3⟩
        have hbel3 := hbel2.trans (hb3.mono hsz2)
        have hsz3 := hbel3.size
        have hs23 := hb3.size
        have HO3 := hid (ownsRow_below HO2.out hb3)
        clear HO2
        obtain ⟨r1, r2, r3⟩ := new_row w3 cs
        have HN1 := hid r1
        have HN2 := hid r2
        have HN3 := hid (Nat.lt_of_lt_of_eq (Nat.lt_succ_self _) r3.symm)
        clear r1 r2 r3
        go_wp2_with (first
          | (refine wpList_store_row rfl 26 (.tmp 10) (.tmp 66) rfl w3.heap.size cs rfl rfl 26 zero32 (heap_alloc_new w3 _) HF1.out HF3.out HF2.out ?_))
        generalize hw4 : World.setRow _ w3.heap.size cs = w4
        have r1 : w4.heap[w3.heap.size]? = some (.cells cs 26 (0, 0)) := by rw [← hw4]; exact HN1.out
        have r2 : Below w3.heap.size w3 w4 := by rw [← hw4]; exact HN2.out
        have r3 : w3.heap.size < w4.heap.size := by rw [← hw4]; exact HN3.out
        clear hw4 HN1 HN2 HN3
        have hbel4 := hbel3.trans (r2.mono hsz3)
        have hsz4 := hbel4.size
        have HO4 := hid (ownsRow_below HO3.out r2)
        clear HO3
        refine (HRT.out w4 hsz4 (hL.below hbel4)).mono ?_
        rintro e w5 ⟨v5, rfl, hown5, hb5⟩
        have hbel5 := hbel4.trans (hb5.mono hsz4)
        have hsz5 := hbel5.size
        have hs45 := hb5.size
        have HO5 := hid (ownsRow_below HO4.out hb5)
        have HR5 := hid ((hb5.block _ (block_lt r1)).trans r1)
        clear HO4 r1 r2
        go_wp2_with fail
        refine (HRO.out w5 hsz5 (hL.below hbel5)).mono ?_
        rintro e w6 ⟨rfl, hb6⟩
        have hbel6 := hbel5.trans (hb6.mono hsz5)
        have hsz6 := hbel6.size
        have hs56 := hb6.size
        have HO6 := hid (ownsRow_below HO5.out hb6)
        have HV6 := hid (ownsRow_below hown5 hb6)
        have HR6 := hid ((hb6.block _ (block_lt HR5.out)).trans HR5.out)
        clear HO5 HR5 hown5 hb5 hb6
        obtain ⟨r1, r2, r4⟩ := new_row w6 cs
        have HN1 := hid r1
        have HN2 := hid r2
        have HN3 := hid (Nat.lt_of_lt_of_eq (Nat.lt_succ_self _) r4.symm)
        clear r1 r2 r4
        go_wp2_with (first
          | (refine wpList_store_row rfl 26 (.tmp 14) (.tmp 78) rfl w6.heap.size cs rfl rfl 26 zero32 (heap_alloc_new w6 _) HF1.out HF3.out HF2.out ?_; generalize hw7 : World.setRow _ w6.heap.size cs = w7; have r1 : w7.heap[w6.heap.size]? = some (.cells cs 26 (0, 0)) := (by rw [← hw7]; exact HN1.out); have r2 : Below w6.heap.size w6 w7 := (by rw [← hw7]; exact HN2.out); have r4 : w6.heap.size < w7.heap.size := (by rw [← hw7]; exact HN3.out); clear hw7; have s2 := strs (shows_of_owns (ownsRow_below HO6.out r2)).2; have s5 := strs (shows_of_owns (ownsRow_below HV6.out r2)).2; have hmade := World.ownsRow_made (base := w7.heap.size) (e := 22) (size := 1) w7 #[] 0 (Nat.le_refl _) (by unfold maxLen; omega) rfl; have HC1 := one_cell_two w7 (.slice a2 T.2.length c2) 22)
          | (at_builtin; refine wpList_append_own _ rfl (.tmp 85) (.tmp 87) 30 rfl w7.heap.size 22 i0 (.slice none 0 0) 1 24 Tryd.underlying30 hi hz0 hz1 hz2 rfl (by decide) _ 0 [] rfl (hmade.alloc _) ⟨w7.heap.size + 1, 0, none⟩ 1 1 [.slice a2 T.2.length c2] rfl rfl ?d1 ?d2 ?d3 ?d4 ?d5 ?_)
          | fail)
        case d1 => exact HC1
        case d2 => intro u hu; simp at hu; subst hu; rfl
        case d3 => unfold maxLen; omega
        case d4 => omega
        case d5 => simp; omega
        intro vA wA hownA hgA _
        go_wp2_with (first
          | (at_builtin; refine wpList_append_own _ rfl (.tmp 88) (.tmp 89) 30 rfl w7.heap.size 22 i0 (.slice none 0 0) 1 24 Tryd.underlying30 hi hz0 hz1 hz2 rfl (by decide) _ _ _ rfl (hownA.alloc _) ⟨wA.heap.size, 0, none⟩ 1 1 [.slice none 0 0] rfl rfl (one_cell _ _ _) ?d2 ?d3 ?d4 ?d5 ?_)
          | fail)
        case d2 => intro u hu; simp at hu; subst hu; rfl
        case d3 => unfold maxLen; omega
        case d4 => omega
        case d5 => have := hgA.size; simp at this ⊢; omega
        intro vB wB hownB hgB _
        have hbA : Below w7.heap.size w7 wA := (((Below.refl _ _).alloc (Nat.le_refl _) _).alloc (by simp) _).grown hgA (by simp; omega) (fun q hq => by have hq' : some w7.heap.size = some q := hq; cases hq'; exact Nat.le_refl _)
        have hbB : Below w7.heap.size w7 wB := (hbA.alloc hbA.size _).grown hgB (by have := hbA.size; simp; omega) (fun q hq => (hownA.lt q hq).1)
        have hsB := hbB.size
        have hb6B : Below w6.heap.size w6 wB := r2.trans (hbB.mono (by omega))
        have hbelB := hbel6.trans (hb6B.mono hsz6)
        have hB1 : wB.heap[w6.heap.size]? = some (.cells cs 26 (0, 0)) := (hbB.block _ (by omega)).trans r1
        have hB2 : wB.heap[w3.heap.size]? = some (.cells cs 26 (0, 0)) := (hb6B.block _ (by omega)).trans HR6.out
        have HOB := hid (ownsRow_below HO6.out hb6B)
        have hlt2 : ∀ q, (Value.slice a2 T.2.length c2).ownBlock = some q → q < w2.heap.size := H2LT
        obtain ⟨xs2, q2⟩ := full_of_owns HOB.out
        have hmk : Marked w1.heap.size wB [.slice a2 T.2.length c2, .slice none 0 0] 0 := marked_cons q2 (marked_cons (.inl ⟨rfl, rfl⟩) (marked_nil0 _ _))
        have hap : Apart [.slice a2 T.2.length c2, .slice none 0 0] := apart_cons (apart_cons apart_nil (fun g hg => by cases hg)) (fun g hg v hv e => by simp at hv; subst hv; cases e)
        have hownB2 : wB.ownsRow w7.heap.size 22 1 vB 2 [.slice a2 T.2.length c2, .slice none 0 0] := by simpa using hownB
        obtain ⟨gr, cc, rfl⟩ := owns_form hownB2 (by omega)
        have HOW := hid (show Calls Tryd.prog 18 #[.slice (some ⟨gr, 0, none⟩) 2 cc] wB _ from owned_keep w1.heap.size gr cc [.slice a2 T.2.length c2, .slice none 0 0] wB (by omega) (ownsRow_mono hownB2 (by omega)) hmk hap (by simp))
        clear hmk hap q2 hownA hownB hownB2 hgA hgB hbA hbB HOB HO6 HV6 HR6 s2 s5 hmade HC1 r1 r2 hb6B
        go_wp2_with fail
        refine HOW.out.mono ?_
        rintro e wo ⟨rfl, hko⟩
        have hk1 : wo.heap[w6.heap.size]? = _ := (hko.2 _ (fun v hv e => by
          simp at hv
          rcases hv with rfl | rfl
          · have := hlt2 _ e; omega
          · cases e)).trans hB1
        have hk2 : wo.heap[w3.heap.size]? = _ := (hko.2 _ (fun v hv e => by
          simp at hv
          rcases hv with rfl | rfl
          · have := hlt2 _ e; omega
          · cases e)).trans hB2
        have HK1 := hid hk1
        have HK2 := hid hk2
        have hfin := hbelB.trans (hko.1.mono hsz1)
        clear hko hk1 hk2 hB1 hB2 HOW hbelB hlt2
        go_wp2_with (first
          | (refine wpList_load_want (by rfl) 26 (.tmp 10) rfl w3.heap.size rfl 26 cs (0, 0) _ _ HK2.out Tryd.underlying26 HF1.out ?_)
          | (refine wpList_load_want (by rfl) 26 (.tmp 14) rfl w6.heap.size rfl 26 cs (0, 0) _ _ HK1.out Tryd.underlying26 HF1.out ?_))
        go_ret
        exact ⟨rfl, hfin⟩

theorem names_law (s : ByteArray) (v : Value) (rows : List (List UInt8)) (w : World) (hs : s.size ≤ 140737488351232) (hL : Lists w.heap.size w v rows) (hnl : ∀ l c', v = .slice none l c' → c' = 0) (hr : rows.length * 24 ≤ 140737488351232) (ht : Tables w) :
    Calls Tryd.prog 4 #[.string s, v] w fun e w' => e = .returned (.bool true) ∧ Below w.heap.size w w' := by
  have hL0 := hL
  obtain ⟨a, c, _, rfl, _⟩ := hL
  by_cases h20 : rows.length ≤ 20
  · exact names_few s a c rows w hs hL0 hnl hr ht h20
  · exact names_many s a c rows w hs hL0 hnl hr ht (by omega)
end Go.Proofs.YtomfhihhhfelfaaDoor
