/- The document's own Right and Key; plain facts on keys (tools/plmem.py: out of stage 7's texts). -/
import Derived.Test.YthjgbcbgkafgjaaDoorVKey
import Derived.Test.YthjgbcbgkafgjaaDoorOrdV
import Derived.Test.YthjgbcbgkafgjaaDoorRefN7
import Derived.Test.YthjgbcbgkafgjaaDoorRefT
import Derived.Test.YthjgbcbgkafgjaaDoorBackF
namespace Go.Proofs.YthjgbcbgkafgjaaDoor
open Go.RowKit
set_option linter.unusedVariables false
set_option linter.unusedSimpArgs false
set_option maxRecDepth 20000

theorem right_num (n : Int) : rightV ⟨1, n, []⟩ = 0 := by
  have : eqv ⟨1, n, []⟩ (namedV ⟨1, n, []⟩) = true := by rw [eqv_iff]; rfl
  rw [rightV, if_neg (by rw [this]; simp)]
  rfl

theorem right_text (s : List UInt8) : rightV ⟨2, 0, s⟩ = if 40 < s.length then 2 else 0 := by
  have : eqv ⟨2, 0, s⟩ (namedV ⟨2, 0, s⟩) = true := by rw [eqv_iff]; rfl
  rw [rightV, if_neg (by rw [this]; simp)]

theorem owns_on {w w' : World} {B e z n : Nat} {v : Value} {xs : List Value} (h : w.ownsRow B e z v n xs) (hb : Below w.heap.size w w') : w'.ownsRow B e z v n xs :=
  h.kept (grown_of_below hb) (by cases v.ownBlock <;> simp)

theorem keyV_le {x : Vl} (h : rightV x = 0) : (keyV x).length ≤ 100 := by
  have hs := (rightV_cases h).1
  unfold keyV
  split
  · simp [be_length]
  · split
    · have := tkey_le x.s; simp; omega
    · simp

theorem rightV_no {k n : Int} {s : List UInt8} (h : ¬ (k = 0 ∧ n = 0 ∧ s = [] ∨ k = 1 ∧ s = [] ∨ k = 2 ∧ n = 0)) : rightV ⟨k, n, s⟩ = 4 := by
  have : ¬ eqv ⟨k, n, s⟩ (namedV ⟨k, n, s⟩) = true := by
    rw [eqv_iff]
    intro e
    unfold namedV at e
    dsimp only at e
    split at e
    · simp only [Vl.mk.injEq] at e; exact h (.inr (.inl ⟨e.1, e.2.2⟩))
    · split at e
      · simp only [Vl.mk.injEq] at e; exact h (.inr (.inr ⟨e.1, e.2.1⟩))
      · simp only [Vl.mk.injEq] at e; exact h (.inl e)
  rw [rightV, if_pos (by simpa using this)]

theorem empty_str (s : List UInt8) : (str8 s).toList.isEmpty = decide (s = []) := by
  rw [str8_toList]
  cases s <;> simp

theorem dright_any (k n : Int) (s : List UInt8) (w : World) (hs : s.length ≤ 9223372036854775807) :
    Calls Tryd.prog 38 #[.agg #[.int .i64 k, .int .i64 n, .string (str8 s)]] w fun e w' => e = .returned (.int .i64 (rightV ⟨k, n, s⟩)) ∧ Below w.heap.size w w' := by
  have hb : Hid (∀ (o : Obj), Below w.heap.size w (w.alloc o)) := hid fun o => (Below.refl _ _).alloc (Nat.le_refl _) _
  have he := empty_str s
  by_cases hk0 : k < 0
  · have hd := rightV_no (k := k) (n := n) (s := s) (by omega)
    rw [hd]
    have hk0' : decide (k < 0) = true := decide_eq_true hk0
    clear hd he
    go_enter Tryd.func38, Tryd.ntmps38
    go_wp2
    go_ret
    exact ⟨rfl, hb.out _⟩
  · have hk0' : decide (k < 0) = false := decide_eq_false hk0
    by_cases hk2 : 2 < k
    · have hd := rightV_no (k := k) (n := n) (s := s) (by omega)
      rw [hd]
      have hk2' : decide (2 < k) = true := decide_eq_true hk2
      clear hd he
      go_enter Tryd.func38, Tryd.ntmps38
      go_wp2
      go_ret
      exact ⟨rfl, hb.out _⟩
    · obtain rfl | rfl | rfl : k = 0 ∨ k = 1 ∨ k = 2 := by omega
      · clear hk0 hk0' hk2
        by_cases hn : n = 0
        · subst hn
          by_cases hs0 : s = []
          · subst hs0
            rw [show rightV ⟨0, 0, []⟩ = 0 from rfl, show str8 [] = ⟨#[]⟩ from rfl]
            clear he
            go_enter Tryd.func38, Tryd.ntmps38
            go_wp2
            go_ret
            exact ⟨rfl, hb.out _⟩
          · rw [rightV_no (k := 0) (n := 0) (s := s) (by simp [hs0])]
            rw [decide_eq_false hs0] at he
            go_enter Tryd.func38, Tryd.ntmps38
            go_wp2
            go_ret
            exact ⟨rfl, hb.out _⟩
        · rw [rightV_no (k := 0) (n := n) (s := s) (by simp [hn])]
          have hn1 : (n == 0) = false := by simpa using hn
          have hn2 : (n != 0) = true := by simpa using hn
          clear he
          go_enter Tryd.func38, Tryd.ntmps38
          go_wp2
          go_ret
          exact ⟨rfl, hb.out _⟩
      · clear hk0 hk0' hk2
        by_cases hs0 : s = []
        · subst hs0
          rw [right_num, show str8 [] = ⟨#[]⟩ from rfl]
          clear he
          go_enter Tryd.func38, Tryd.ntmps38
          go_wp2
          go_ret
          exact ⟨rfl, hb.out _⟩
        · rw [rightV_no (k := 1) (n := n) (s := s) (by simp [hs0])]
          rw [decide_eq_false hs0] at he
          go_enter Tryd.func38, Tryd.ntmps38
          go_wp2
          go_ret
          exact ⟨rfl, hb.out _⟩
      · clear hk0 hk0' hk2
        by_cases hn : n = 0
        · subst hn
          rw [right_text]
          clear he
          by_cases hl : 40 < s.length
          · have hl' : (40 : Int) < ((str8 s).size : Int) := by rw [str8_size]; omega
            rw [if_pos hl]
            go_enter Tryd.func38, Tryd.ntmps38
            go_wp2
            go_ret
            exact ⟨rfl, hb.out _⟩
          · have hl' : ¬ ((40 : Int) < ((str8 s).size : Int)) := by rw [str8_size]; omega
            rw [if_neg hl]
            go_enter Tryd.func38, Tryd.ntmps38
            go_wp2
            go_ret
            exact ⟨rfl, hb.out _⟩
        · rw [rightV_no (k := 2) (n := n) (s := s) (by simp [hn])]
          have hn1 : (n == 0) = false := by simpa using hn
          have hn2 : (n != 0) = true := by simpa using hn
          clear he
          go_enter Tryd.func38, Tryd.ntmps38
          go_wp2
          go_ret
          exact ⟨rfl, hb.out _⟩

theorem own_one_new (w : World) (B : Nat) (b : Value) (e : TypeId) (hB : B ≤ w.heap.size) : (w.alloc (.cells #[b] e)).ownsRow B e 1 (.slice (some ⟨w.heap.size, 0, none⟩) 1 1) 1 [b] :=
  ⟨rfl, .inr ⟨w.heap.size, 1, #[b], rfl, hB, heap_alloc_new w _, Nat.le_refl _, by unfold maxLen; omega, rfl, rfl⟩⟩

theorem refNumKey_len (n : Int) (w : World) (h0 : -9223372036854775808 ≤ n) (h1 : n ≤ 9223372036854775807) :
    Calls Tryd.prog 46 #[.int .i64 n] w fun e w' => ∃ v', e = .returned v' ∧ w'.ownsRow w.heap.size 5 1 v' (be (u64of (n + 9223372036854775808)) 8).length ((be (u64of (n + 9223372036854775808)) 8).map by8) ∧ Below w.heap.size w w' := by
  rw [be_length]
  refine (refNumKey_any n w h0 h1).mono fun e w' ⟨g, he, ho, hb⟩ => ⟨_, he, ho, hb⟩

theorem refTextKey_len (s : List UInt8) (w : World) (hs : s.length ≤ 70368744177000) :
    Calls Tryd.prog 47 #[.string (str8 s)] w fun e w' => ∃ v', e = .returned v' ∧ w'.ownsRow w.heap.size 5 1 v' (tkey s).length ((tkey s).map by8) ∧ Below w.heap.size w w' :=
  refTextKey_any (str8 s) w hs

theorem dkey_any (k n : Int) (s : List UInt8) (w : World) (h0 : -9223372036854775808 ≤ n) (h1 : n ≤ 9223372036854775807) (hs : s.length ≤ 9223372036854775807) :
    Calls Tryd.prog 40 #[.agg #[.int .i64 k, .int .i64 n, .string (str8 s)]] w fun e w' => ∃ v', e = .returned (.tuple #[v', .int .i64 (rightV ⟨k, n, s⟩)]) ∧ w'.ownsRow w.heap.size 5 1 v' (keyOfV ⟨k, n, s⟩).length ((keyOfV ⟨k, n, s⟩).map by8) ∧ Below w.heap.size w w' := by
  obtain ⟨i0, hi, hz0, hz1, hz2⟩ := info_parts Tryd.infoU8
  obtain ⟨W, hW, hbW, hzW, hcW⟩ := box3 w (.int .i64 k) (.int .i64 n) (.string (str8 s)) 23
  have c0 := hcW W (Below.refl _ _)
  have HR := hid (dright_any k n s W hs)
  have HB := hid hbW
  have HC := hid hcW
  clear hcW hbW
  by_cases hr : rightV ⟨k, n, s⟩ = 0
  · have hd : keyOfV ⟨k, n, s⟩ = keyV ⟨k, n, s⟩ := if_pos hr
    rw [hd]
    clear hd
    obtain ⟨hl, hc⟩ := rightV_cases hr
    dsimp only at hl hc
    rw [hr] at HR ⊢
    clear hr
    rcases hc with ⟨rfl, rfl, rfl⟩ | ⟨rfl, rfl⟩ | ⟨rfl, rfl⟩
    · rw [show keyV ⟨0, 0, []⟩ = [0] from rfl]
      go_enter Tryd.func40, Tryd.ntmps40
      go_wp2_with fail
      refine HR.out.mono ?_
      rintro e w2 ⟨rfl, hb2⟩
      have c2 := HC.out _ hb2
      have D2 := hid (HB.out.trans (hb2.mono (by omega)))
      have HO := hid (own_one_new w2 w.heap.size (.int .u8 0) 5 D2.out.size)
      have c3 := HC.out _ (hb2.alloc hb2.size (.cells #[.int .u8 0] 5))
      have HD := hid (D2.out.alloc D2.out.size (.cells #[.int .u8 0] 5))
      clear hb2
      go_wp2
      go_ret2
      exact ⟨_, rfl, HO.out, HD.out⟩
    · have hd : keyV ⟨1, n, []⟩ = 1 :: be (u64of (n + 9223372036854775808)) 8 := rfl
      have HNK := fun w => refNumKey_len n w h0 h1
      have hlb : (be (u64of (n + 9223372036854775808)) 8).length ≤ 100 := by rw [be_length]; omega
      obtain ⟨K, hK⟩ : ∃ K, be (u64of (n + 9223372036854775808)) 8 = K := ⟨_, rfl⟩
      rw [hK] at hd HNK hlb
      rw [hd]
      clear hd hK
      have HNK := hid HNK
      go_enter Tryd.func40, Tryd.ntmps40
      go_wp2_with fail
      refine HR.out.mono ?_
      rintro e w2 ⟨rfl, hb2⟩
      have hzx : w.heap.size < w2.heap.size := Nat.lt_of_lt_of_le hzW hb2.size
      have c2 := HC.out _ hb2
      have D2 := hid (HB.out.trans (hb2.mono (by omega)))
      obtain ⟨w3, hw3⟩ : ∃ w3, w2.alloc (.cells #[.int .u8 1] 5) = w3 := ⟨_, rfl⟩
      have hO := own_one_new w2 w.heap.size (.int .u8 1) 5 D2.out.size
      have b3 := hb2.alloc hb2.size (.cells #[.int .u8 1] 5)
      have d3 := D2.out.alloc D2.out.size (.cells #[.int .u8 1] 5)
      rw [hw3] at hO b3 d3
      have c3 := HC.out _ b3
      have D3 := hid d3
      have B3 := hid b3
      clear hb2 b3 d3
      go_wp2_with fail
      try rw [hw3]
      clear hw3
      refine (HNK.out w3).mono ?_
      rintro e w4 ⟨v4, rfl, hown4, hb4⟩
      have hO4 := owns_on hO hb4
      have hsh4 := (shows_of_owns hown4).2
      have b4 := B3.out.trans (hb4.mono B3.out.size)
      have c4 := HC.out _ b4
      have D4 := htr D3 hb4
      have hsz4 := D4.out.size
      have HL := hid (fun q hq => (hO4.lt q hq) : ∀ q, (Value.slice (some ⟨w2.heap.size, 0, none⟩) 1 1).ownBlock = some q → w.heap.size ≤ q ∧ q < w4.heap.size)
      have hz4 : w.heap.size < w4.heap.size := Nat.lt_of_lt_of_le hzW b4.size
      clear hO hown4 hb4 b4 c2 c3
      go_wp2_with (first | (at_builtin; refine wpList_append_shows _ rfl _ _ 29 rfl w.heap.size 5 i0 Tryd.underlying29 hi hz0 hz1 hz2 _ _ _ rfl hO4 w4.heap.size _ K rfl hsh4 ?_ ?_ ?_) | go_in)
      · omega
      · omega
      · intro v' w5 hown5 hg5 _
        have hne : ∀ q, (Value.slice (some ⟨w2.heap.size, 0, none⟩) 1 1).ownBlock = some q → q ≠ w.heap.size := fun q hq => by
          simp only [Value.ownBlock, Option.some.injEq] at hq
          omega
        have c5 : w5.cell? ⟨w.heap.size, 0, none⟩ = some (.int .i64 1) ∧ w5.cell? ⟨w.heap.size, 1, none⟩ = some (.int .i64 n) ∧ w5.cell? ⟨w.heap.size, 2, none⟩ = some (.string (str8 [])) :=
          ⟨(grown_cell hg5 0 (by omega) hne).trans c4.1, (grown_cell hg5 1 (by omega) hne).trans c4.2.1, (grown_cell hg5 2 (by omega) hne).trans c4.2.2⟩
        have HD5 := hid (D4.out.grown hg5 (by omega) (fun q hq => (HL.out q hq).1))
        have HO5 : Hid (w5.ownsRow w.heap.size 5 1 v' (1 :: K).length ((1 :: K).map by8)) := hid (by rw [show (1 :: K).length = 1 + K.length from by rw [List.length_cons]; omega]; exact hown5)
        clear hown5 hg5 c4 hO4
        go_wp2
        go_ret2
        exact ⟨_, rfl, by first | exact HO5.out | simpa [by8] using HO5.out, HD5.out⟩
    · have hd : keyV ⟨2, 0, s⟩ = 2 :: tkey s := rfl
      have HNK := fun w => refTextKey_len s w (by omega)
      have hlb : (tkey s).length ≤ 100 := by have := tkey_le s; omega
      obtain ⟨K, hK⟩ : ∃ K, tkey s = K := ⟨_, rfl⟩
      rw [hK] at hd HNK hlb
      rw [hd]
      clear hd hK
      have HNK := hid HNK
      go_enter Tryd.func40, Tryd.ntmps40
      go_wp2_with fail
      refine HR.out.mono ?_
      rintro e w2 ⟨rfl, hb2⟩
      have hzx : w.heap.size < w2.heap.size := Nat.lt_of_lt_of_le hzW hb2.size
      have c2 := HC.out _ hb2
      have D2 := hid (HB.out.trans (hb2.mono (by omega)))
      obtain ⟨w3, hw3⟩ : ∃ w3, w2.alloc (.cells #[.int .u8 2] 5) = w3 := ⟨_, rfl⟩
      have hO := own_one_new w2 w.heap.size (.int .u8 2) 5 D2.out.size
      have b3 := hb2.alloc hb2.size (.cells #[.int .u8 2] 5)
      have d3 := D2.out.alloc D2.out.size (.cells #[.int .u8 2] 5)
      rw [hw3] at hO b3 d3
      have c3 := HC.out _ b3
      have D3 := hid d3
      have B3 := hid b3
      clear hb2 b3 d3
      go_wp2_with fail
      try rw [hw3]
      clear hw3
      refine (HNK.out w3).mono ?_
      rintro e w4 ⟨v4, rfl, hown4, hb4⟩
      have hO4 := owns_on hO hb4
      have hsh4 := (shows_of_owns hown4).2
      have b4 := B3.out.trans (hb4.mono B3.out.size)
      have c4 := HC.out _ b4
      have D4 := htr D3 hb4
      have hsz4 := D4.out.size
      have HL := hid (fun q hq => (hO4.lt q hq) : ∀ q, (Value.slice (some ⟨w2.heap.size, 0, none⟩) 1 1).ownBlock = some q → w.heap.size ≤ q ∧ q < w4.heap.size)
      have hz4 : w.heap.size < w4.heap.size := Nat.lt_of_lt_of_le hzW b4.size
      clear hO hown4 hb4 b4 c2 c3
      go_wp2_with (first | (at_builtin; refine wpList_append_shows _ rfl _ _ 29 rfl w.heap.size 5 i0 Tryd.underlying29 hi hz0 hz1 hz2 _ _ _ rfl hO4 w4.heap.size _ K rfl hsh4 ?_ ?_ ?_) | go_in)
      · omega
      · omega
      · intro v' w5 hown5 hg5 _
        have hne : ∀ q, (Value.slice (some ⟨w2.heap.size, 0, none⟩) 1 1).ownBlock = some q → q ≠ w.heap.size := fun q hq => by
          simp only [Value.ownBlock, Option.some.injEq] at hq
          omega
        have c5 : w5.cell? ⟨w.heap.size, 0, none⟩ = some (.int .i64 2) ∧ w5.cell? ⟨w.heap.size, 1, none⟩ = some (.int .i64 0) ∧ w5.cell? ⟨w.heap.size, 2, none⟩ = some (.string (str8 s)) :=
          ⟨(grown_cell hg5 0 (by omega) hne).trans c4.1, (grown_cell hg5 1 (by omega) hne).trans c4.2.1, (grown_cell hg5 2 (by omega) hne).trans c4.2.2⟩
        have HD5 := hid (D4.out.grown hg5 (by omega) (fun q hq => (HL.out q hq).1))
        have HO5 : Hid (w5.ownsRow w.heap.size 5 1 v' (2 :: K).length ((2 :: K).map by8)) := hid (by rw [show (2 :: K).length = 1 + K.length from by rw [List.length_cons]; omega]; exact hown5)
        clear hown5 hg5 c4 hO4
        go_wp2
        go_ret2
        exact ⟨_, rfl, by first | exact HO5.out | simpa [by8] using HO5.out, HD5.out⟩
  · have hd : keyOfV ⟨k, n, s⟩ = [] := if_neg hr
    rw [hd]
    clear hd
    have hr' : (((rightV ⟨k, n, s⟩ : Nat) : Int) == 0) = false := by rw [beq_eq_false_iff_ne]; omega
    generalize rightV ⟨k, n, s⟩ = R at *
    go_enter Tryd.func40, Tryd.ntmps40
    go_wp2_with fail
    refine HR.out.mono ?_
    rintro e w2 ⟨rfl, hb2⟩
    go_wp2
    go_ret2
    exact ⟨_, rfl, World.ownsRow_nil _ _ _ _, HB.out.trans (hb2.mono (by omega))⟩

theorem keyV_ne {x : Vl} : keyV x ≠ [] := by
  unfold keyV
  split
  · simp
  · split <;> simp

theorem key_lessV (x y : Vl) (a b : List UInt8) (hx : rightV x = 0) (hy : rightV y = 0) (nx : -9223372036854775808 ≤ x.n ∧ x.n ≤ 9223372036854775807) (ny : -9223372036854775808 ≤ y.n ∧ y.n ≤ 9223372036854775807) (hne : x ≠ y) :
    Op.bytesLess (keyV x ++ a) (keyV y ++ b) = decide (cmpV x y < 0) := by
  obtain ⟨_, cx⟩ := rightV_cases hx
  obtain ⟨_, cy⟩ := rightV_cases hy
  have hq : ¬ eqv x y = true := fun e => hne (eqv_iff.1 e)
  obtain ⟨k, n, s⟩ := x
  obtain ⟨k', n', s'⟩ := y
  dsimp only at cx cy nx ny
  rcases cx with ⟨rfl, rfl, rfl⟩ | ⟨rfl, rfl⟩ | ⟨rfl, rfl⟩ <;> rcases cy with ⟨rfl, rfl, rfl⟩ | ⟨rfl, rfl⟩ | ⟨rfl, rfl⟩
  · exact absurd rfl hne
  · rw [show keyV ⟨0, 0, []⟩ = [0] from rfl, show keyV ⟨1, n', []⟩ = 1 :: be (u64of (n' + 9223372036854775808)) 8 from rfl, List.cons_append, List.cons_append, less_lt 0 1 _ _ (by decide), cmpV, if_neg hq]
    rfl
  · rw [show keyV ⟨0, 0, []⟩ = [0] from rfl, show keyV ⟨2, 0, s'⟩ = 2 :: tkey s' from rfl, List.cons_append, List.cons_append, less_lt 0 2 _ _ (by decide), cmpV, if_neg hq]
    rfl
  · rw [show keyV ⟨0, 0, []⟩ = [0] from rfl, show keyV ⟨1, n, []⟩ = 1 :: be (u64of (n + 9223372036854775808)) 8 from rfl, List.cons_append, List.cons_append, less_gt 1 0 _ _ (by decide), cmpV, if_neg hq]
    rfl
  · rw [show keyV ⟨1, n, []⟩ = 1 :: be (u64of (n + 9223372036854775808)) 8 from rfl, show keyV ⟨1, n', []⟩ = 1 :: be (u64of (n' + 9223372036854775808)) 8 from rfl, List.cons_append, List.cons_append, less_cons]
    have hnn : n ≠ n' := fun e => hne (by rw [e])
    have kn : (u64of (n + 9223372036854775808) : Int) = n + 9223372036854775808 := by unfold u64of; omega
    have km : (u64of (n' + 9223372036854775808) : Int) = n' + 9223372036854775808 := by unfold u64of; omega
    have e8 : (256 : Nat) ^ 8 = 18446744073709551616 := by decide
    have ln := u64of_lt (n + 9223372036854775808)
    have lm := u64of_lt (n' + 9223372036854775808)
    rw [less_be _ _ a b 8 (by rw [e8, Nat.mod_eq_of_lt ln, Nat.mod_eq_of_lt lm]; omega), e8, Nat.mod_eq_of_lt ln, Nat.mod_eq_of_lt lm, cmpV, if_neg hq, if_neg (by simp), if_pos (by simpa using hnn), cmpI]
    by_cases hlt : n < n'
    · rw [if_pos hlt, decide_eq_true (by omega)]; rfl
    · rw [if_neg hlt, if_pos (by show n' < n; omega), decide_eq_false (by omega)]; rfl
  · rw [show keyV ⟨1, n, []⟩ = 1 :: be (u64of (n + 9223372036854775808)) 8 from rfl, show keyV ⟨2, 0, s'⟩ = 2 :: tkey s' from rfl, List.cons_append, List.cons_append, less_lt 1 2 _ _ (by decide), cmpV, if_neg hq]
    rfl
  · rw [show keyV ⟨0, 0, []⟩ = [0] from rfl, show keyV ⟨2, 0, s⟩ = 2 :: tkey s from rfl, List.cons_append, List.cons_append, less_gt 2 0 _ _ (by decide), cmpV, if_neg hq]
    rfl
  · rw [show keyV ⟨1, n', []⟩ = 1 :: be (u64of (n' + 9223372036854775808)) 8 from rfl, show keyV ⟨2, 0, s⟩ = 2 :: tkey s from rfl, List.cons_append, List.cons_append, less_gt 2 1 _ _ (by decide), cmpV, if_neg hq]
    rfl
  · have hss : s ≠ s' := fun e => hne (by rw [e])
    rw [show keyV ⟨2, 0, s⟩ = 2 :: tkey s from rfl, show keyV ⟨2, 0, s'⟩ = 2 :: tkey s' from rfl, List.cons_append, List.cons_append, less_cons, less_tkey' s s' a b hss, cmpV, if_neg hq, if_neg (by simp), if_neg (by simp), cmpS]
    by_cases hl : Op.bytesLess s s' = true
    · rw [if_pos hl, hl]; rfl
    · rw [if_neg hl, if_neg hss]
      simp only [Bool.not_eq_true] at hl
      rw [hl]; rfl

theorem keyOf_len (x : Vl) : (rightV x ≠ 0 ∧ keyOfV x = []) ∨ (rightV x = 0 ∧ keyOfV x = keyV x ∧ 0 < (keyV x).length ∧ (keyV x).length ≤ 100) := by
  by_cases h : rightV x = 0
  · exact .inr ⟨h, if_pos h, List.length_pos_iff.2 keyV_ne, keyV_le h⟩
  · exact .inl ⟨h, if_neg h⟩

theorem own_form {w : World} {B e z n : Nat} {v : Value} {xs : List Value} (h : w.ownsRow B e z v n xs) : ∃ a c, v = .slice a n c := by
  rcases h.2 with ⟨rfl, rfl⟩ | ⟨g, cap, cur, rfl, _⟩
  · exact ⟨_, _, rfl⟩
  · exact ⟨_, _, rfl⟩

def OkV (x : Vl) : Prop := (-9223372036854775808 ≤ x.k ∧ x.k ≤ 9223372036854775807) ∧ (-9223372036854775808 ≤ x.n ∧ x.n ≤ 9223372036854775807) ∧ x.s.length ≤ 140737488351232
end Go.Proofs.YthjgbcbgkafgjaaDoor
