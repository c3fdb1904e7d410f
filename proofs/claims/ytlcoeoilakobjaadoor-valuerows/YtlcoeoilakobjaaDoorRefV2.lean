/- The document's own Key and TakeKey. -/
import Derived.Test.YtlcoeoilakobjaaDoorRefV1
import Derived.Test.YtlcoeoilakobjaaDoorRefN7
import Derived.Test.YtlcoeoilakobjaaDoorRefT
namespace Go.Proofs.YtlcoeoilakobjaaDoor
open Go.RowKit
set_option linter.unusedVariables false
set_option linter.unusedSimpArgs false
set_option maxRecDepth 20000

theorem own_one_new (w : World) (B : Nat) (b : Value) (e : TypeId) (hB : B ≤ w.heap.size) : (w.alloc (.cells #[b] e)).ownsRow B e 1 (.slice (some ⟨w.heap.size, 0, none⟩) 1 1) 1 [b] :=
  ⟨rfl, .inr ⟨w.heap.size, 1, #[b], rfl, hB, heap_alloc_new w _, Nat.le_refl _, by unfold maxLen; omega, rfl, rfl⟩⟩

theorem refNumKey_len (n : Int) (w : World) (h0 : -9223372036854775808 ≤ n) (h1 : n ≤ 9223372036854775807) :
    Calls Tryd.prog 39 #[.int .i64 n] w fun e w' => ∃ v', e = .returned v' ∧ w'.ownsRow w.heap.size 5 1 v' (be (u64of (n + 9223372036854775808)) 8).length ((be (u64of (n + 9223372036854775808)) 8).map by8) ∧ Below w.heap.size w w' := by
  rw [be_length]
  refine (refNumKey_any n w h0 h1).mono fun e w' ⟨g, he, ho, hb⟩ => ⟨_, he, ho, hb⟩

theorem refTextKey_len (s : List UInt8) (w : World) (hs : s.length ≤ 70368744177000) :
    Calls Tryd.prog 40 #[.string (str8 s)] w fun e w' => ∃ v', e = .returned v' ∧ w'.ownsRow w.heap.size 5 1 v' (tkey s).length ((tkey s).map by8) ∧ Below w.heap.size w w' :=
  refTextKey_any (str8 s) w hs

set_option maxHeartbeats 1000000 in
theorem dkey_any (k n : Int) (s : List UInt8) (w : World) (h0 : -9223372036854775808 ≤ n) (h1 : n ≤ 9223372036854775807) (hs : s.length ≤ 9223372036854775807) :
    Calls Tryd.prog 19 #[.agg #[.int .i64 k, .int .i64 n, .string (str8 s)]] w fun e w' => ∃ v', e = .returned (.tuple #[v', .int .i64 (rightV ⟨k, n, s⟩)]) ∧ w'.ownsRow w.heap.size 5 1 v' (keyOfV ⟨k, n, s⟩).length ((keyOfV ⟨k, n, s⟩).map by8) ∧ Below w.heap.size w w' := by
  obtain ⟨i0, hi, hz0, hz1, hz2⟩ := info_parts Tryd.infoU8
  obtain ⟨W, hW, hbW, hzW, hcW⟩ := box3 w (.int .i64 k) (.int .i64 n) (.string (str8 s)) 23
  have c0 := hcW W (Below.refl _ _)
  have HR := hid (dright_any k n s W hs)
  have HB := hid hbW
  have HC := hid hcW
  clear hcW hbW
  by_cases hr : rightV ⟨k, n, s⟩ = 0
  · have hd : keyOfV ⟨k, n, s⟩ = keyV ⟨k, n, s⟩ := if_pos hr
    rw [hd]
    clear hd
    obtain ⟨hl, hc⟩ := rightV_cases hr
    dsimp only at hl hc
    rw [hr] at HR ⊢
    clear hr
    rcases hc with ⟨rfl, rfl, rfl⟩ | ⟨rfl, rfl⟩ | ⟨rfl, rfl⟩
    · rw [show keyV ⟨0, 0, []⟩ = [0] from rfl]
      go_enter Tryd.func19, Tryd.ntmps19
      go_wp2_with fail
      refine HR.out.mono ?_
      rintro e w2 ⟨rfl, hb2⟩
      have c2 := HC.out _ hb2
      have D2 := hid (HB.out.trans (hb2.mono (by omega)))
      have HO := hid (own_one_new w2 w.heap.size (.int .u8 0) 5 D2.out.size)
      have c3 := HC.out _ (hb2.alloc hb2.size (.cells #[.int .u8 0] 5))
      have HD := hid (D2.out.alloc D2.out.size (.cells #[.int .u8 0] 5))
      clear hb2
      go_wp2
      go_ret2
      exact ⟨_, rfl, HO.out, HD.out⟩
    · have hd : keyV ⟨1, n, []⟩ = 1 :: be (u64of (n + 9223372036854775808)) 8 := rfl
      have HNK := fun w => refNumKey_len n w h0 h1
      have hlb : (be (u64of (n + 9223372036854775808)) 8).length ≤ 100 := by rw [be_length]; omega
      obtain ⟨K, hK⟩ : ∃ K, be (u64of (n + 9223372036854775808)) 8 = K := ⟨_, rfl⟩
      rw [hK] at hd HNK hlb
      rw [hd]
      clear hd hK
      have HNK := hid HNK
      go_enter Tryd.func19, Tryd.ntmps19
      go_wp2_with fail
      refine HR.out.mono ?_
      rintro e w2 ⟨rfl, hb2⟩
      have hzx : w.heap.size < w2.heap.size := Nat.lt_of_lt_of_le hzW hb2.size
      have c2 := HC.out _ hb2
      have D2 := hid (HB.out.trans (hb2.mono (by omega)))
      obtain ⟨w3, hw3⟩ : ∃ w3, w2.alloc (.cells #[.int .u8 1] 5) = w3 := ⟨_, rfl⟩
      have hO := own_one_new w2 w.heap.size (.int .u8 1) 5 D2.out.size
      have b3 := hb2.alloc hb2.size (.cells #[.int .u8 1] 5)
      have d3 := D2.out.alloc D2.out.size (.cells #[.int .u8 1] 5)
      rw [hw3] at hO b3 d3
      have c3 := HC.out _ b3
      have D3 := hid d3
      have B3 := hid b3
      clear hb2 b3 d3
      go_wp2_with fail
      try rw [hw3]
      clear hw3
      refine (HNK.out w3).mono ?_
      rintro e w4 ⟨v4, rfl, hown4, hb4⟩
      have hO4 := owns_on hO hb4
      have hsh4 := (shows_of_owns hown4).2
      have b4 := B3.out.trans (hb4.mono B3.out.size)
      have c4 := HC.out _ b4
      have D4 := hid (D3.out.trans (hb4.mono D3.out.size))
      have hsz4 := D4.out.size
      have HL := hid (fun q hq => (hO4.lt q hq) : ∀ q, (Value.slice (some ⟨w2.heap.size, 0, none⟩) 1 1).ownBlock = some q → w.heap.size ≤ q ∧ q < w4.heap.size)
      have hz4 : w.heap.size < w4.heap.size := Nat.lt_of_lt_of_le hzW b4.size
      clear hO hown4 hb4 b4 c2 c3
      go_wp2_with (first | (at_builtin; refine wpList_append_shows _ rfl _ _ 30 rfl w.heap.size 5 i0 Tryd.underlying30 hi hz0 hz1 hz2 _ _ _ rfl hO4 w4.heap.size _ K rfl hsh4 ?_ ?_ ?_) | go_in)
      · omega
      · omega
      · intro v' w5 hown5 hg5 _
        have hne : ∀ q, (Value.slice (some ⟨w2.heap.size, 0, none⟩) 1 1).ownBlock = some q → q ≠ w.heap.size := fun q hq => by
          simp only [Value.ownBlock, Option.some.injEq] at hq
          omega
        have c5 : w5.cell? ⟨w.heap.size, 0, none⟩ = some (.int .i64 1) ∧ w5.cell? ⟨w.heap.size, 1, none⟩ = some (.int .i64 n) ∧ w5.cell? ⟨w.heap.size, 2, none⟩ = some (.string (str8 [])) :=
          ⟨(grown_cell hg5 0 (by omega) hne).trans c4.1, (grown_cell hg5 1 (by omega) hne).trans c4.2.1, (grown_cell hg5 2 (by omega) hne).trans c4.2.2⟩
        have HD5 := hid (D4.out.grown hg5 (by omega) (fun q hq => (HL.out q hq).1))
        have HO5 : Hid (w5.ownsRow w.heap.size 5 1 v' (1 :: K).length ((1 :: K).map by8)) := hid (by rw [show (1 :: K).length = 1 + K.length from by rw [List.length_cons]; omega]; exact hown5)
        clear hown5 hg5 c4 hO4
        go_wp2
        go_ret2
        exact ⟨_, rfl, by first | exact HO5.out | simpa [by8] using HO5.out, HD5.out⟩
    · have hd : keyV ⟨2, 0, s⟩ = 2 :: tkey s := rfl
      have HNK := fun w => refTextKey_len s w (by omega)
      have hlb : (tkey s).length ≤ 100 := by have := tkey_le s; omega
      obtain ⟨K, hK⟩ : ∃ K, tkey s = K := ⟨_, rfl⟩
      rw [hK] at hd HNK hlb
      rw [hd]
      clear hd hK
      have HNK := hid HNK
      go_enter Tryd.func19, Tryd.ntmps19
      go_wp2_with fail
      refine HR.out.mono ?_
      rintro e w2 ⟨rfl, hb2⟩
      have hzx : w.heap.size < w2.heap.size := Nat.lt_of_lt_of_le hzW hb2.size
      have c2 := HC.out _ hb2
      have D2 := hid (HB.out.trans (hb2.mono (by omega)))
      obtain ⟨w3, hw3⟩ : ∃ w3, w2.alloc (.cells #[.int .u8 2] 5) = w3 := ⟨_, rfl⟩
      have hO := own_one_new w2 w.heap.size (.int .u8 2) 5 D2.out.size
      have b3 := hb2.alloc hb2.size (.cells #[.int .u8 2] 5)
      have d3 := D2.out.alloc D2.out.size (.cells #[.int .u8 2] 5)
      rw [hw3] at hO b3 d3
      have c3 := HC.out _ b3
      have D3 := hid d3
      have B3 := hid b3
      clear hb2 b3 d3
      go_wp2_with fail
      try rw [hw3]
      clear hw3
      refine (HNK.out w3).mono ?_
      rintro e w4 ⟨v4, rfl, hown4, hb4⟩
      have hO4 := owns_on hO hb4
      have hsh4 := (shows_of_owns hown4).2
      have b4 := B3.out.trans (hb4.mono B3.out.size)
      have c4 := HC.out _ b4
      have D4 := hid (D3.out.trans (hb4.mono D3.out.size))
      have hsz4 := D4.out.size
      have HL := hid (fun q hq => (hO4.lt q hq) : ∀ q, (Value.slice (some ⟨w2.heap.size, 0, none⟩) 1 1).ownBlock = some q → w.heap.size ≤ q ∧ q < w4.heap.size)
      have hz4 : w.heap.size < w4.heap.size := Nat.lt_of_lt_of_le hzW b4.size
      clear hO hown4 hb4 b4 c2 c3
      go_wp2_with (first | (at_builtin; refine wpList_append_shows _ rfl _ _ 30 rfl w.heap.size 5 i0 Tryd.underlying30 hi hz0 hz1 hz2 _ _ _ rfl hO4 w4.heap.size _ K rfl hsh4 ?_ ?_ ?_) | go_in)
      · omega
      · omega
      · intro v' w5 hown5 hg5 _
        have hne : ∀ q, (Value.slice (some ⟨w2.heap.size, 0, none⟩) 1 1).ownBlock = some q → q ≠ w.heap.size := fun q hq => by
          simp only [Value.ownBlock, Option.some.injEq] at hq
          omega
        have c5 : w5.cell? ⟨w.heap.size, 0, none⟩ = some (.int .i64 2) ∧ w5.cell? ⟨w.heap.size, 1, none⟩ = some (.int .i64 0) ∧ w5.cell? ⟨w.heap.size, 2, none⟩ = some (.string (str8 s)) :=
          ⟨(grown_cell hg5 0 (by omega) hne).trans c4.1, (grown_cell hg5 1 (by omega) hne).trans c4.2.1, (grown_cell hg5 2 (by omega) hne).trans c4.2.2⟩
        have HD5 := hid (D4.out.grown hg5 (by omega) (fun q hq => (HL.out q hq).1))
        have HO5 : Hid (w5.ownsRow w.heap.size 5 1 v' (2 :: K).length ((2 :: K).map by8)) := hid (by rw [show (2 :: K).length = 1 + K.length from by rw [List.length_cons]; omega]; exact hown5)
        clear hown5 hg5 c4 hO4
        go_wp2
        go_ret2
        exact ⟨_, rfl, by first | exact HO5.out | simpa [by8] using HO5.out, HD5.out⟩
  · have hd : keyOfV ⟨k, n, s⟩ = [] := if_neg hr
    rw [hd]
    clear hd
    have hr' : (((rightV ⟨k, n, s⟩ : Nat) : Int) == 0) = false := by rw [beq_eq_false_iff_ne]; omega
    generalize rightV ⟨k, n, s⟩ = R at *
    go_enter Tryd.func19, Tryd.ntmps19
    go_wp2_with fail
    refine HR.out.mono ?_
    rintro e w2 ⟨rfl, hb2⟩
    go_wp2
    go_ret2
    exact ⟨_, rfl, World.ownsRow_nil _ _ _ _, HB.out.trans (hb2.mono (by omega))⟩

set_option maxHeartbeats 1000000 in
theorem dtakeKey_none (a : Option Addr) (c : Nat) (w : World) :
    Calls Tryd.prog 20 #[.slice a 0 c] w fun e w' => e = .returned (.tuple #[.agg #[.int .i64 0, .int .i64 0, .string (str8 [])], .int .i64 0, .int .i64 3]) ∧ Below w.heap.size w w' := by
  have hb : ∀ (o : Obj), Below w.heap.size w (w.alloc o) := fun o => (Below.refl _ _).alloc (Nat.le_refl _) _
  have e0 : str8 [] = ⟨#[]⟩ := rfl
  rw [e0]
  go_enter Tryd.func20, Tryd.ntmps20
  go_wp2
  exact bodyPost_ret (v := .tuple #[.agg #[.int .i64 0, .int .i64 0, .string ⟨#[]⟩], .int .i64 0, .int .i64 3]) (by simp [results, Tryd.results20, go_sem]) rfl ⟨rfl, hb _⟩

theorem box3h (w : World) (a b c : Value) (t : TypeId) : ∃ W, w.alloc (.cells #[a, b, c] t) = W ∧ Below w.heap.size w W ∧ w.heap.size < W.heap.size ∧
    ∀ W', Below W.heap.size W W' → W'.heap[w.heap.size]? = some (.cells #[a, b, c] t) :=
  ⟨_, rfl, (Below.refl _ _).alloc (Nat.le_refl _) _, by simp, fun W' h => (h.block _ (by simp)).trans (heap_alloc_new w _)⟩

set_option maxHeartbeats 1000000 in
theorem dtakeKey_null (B0 : Nat) (v : Value) (c : UInt8) (r : List UInt8) (w : World) (hB : B0 ≤ w.heap.size) (hsh : Shows B0 w v (c :: r)) (hl : r.length ≤ 140737488351232) (hc : c = 0) :
    Calls Tryd.prog 20 #[v] w fun e w' => e = .returned (.tuple #[.agg #[.int .i64 0, .int .i64 0, .string (str8 [])], .int .i64 1, .int .i64 0]) ∧ Below w.heap.size w w' := by
  obtain ⟨a, cp, rfl, hl1, hl2, hn0, h3⟩ := id hsh
  have hlen : (c :: r).length = r.length + 1 := rfl
  obtain ⟨b, off, rfl, hbB, hcell⟩ := h3 (by simp)
  obtain ⟨V, hV, hVs⟩ := from_any (p := 1) hsh (by simp) (by simp)
  have hcp : w.cell? ⟨b, off, none⟩ = some (.int .u8 0) := by have := hcell 0 (by simp); simp only [List.getElem?_cons_zero, Option.getD_some, Nat.add_zero] at this; rw [hc] at this; exact this
  have hV : ∀ w, (Instr.slice 30 (.slice (some ⟨b, off, none⟩) (r.length + 1) cp) (some (.int .i64 1)) none none).run Tryd.prog w = .ok V w := hV
  have hcp2 : ∀ o, (w.alloc o).cell? ⟨b, off, none⟩ = some (.int .u8 0) := fun o => (((Below.refl _ w).alloc (Nat.le_refl _) o).cell (p := ⟨b, off, none⟩) (by show b < _; omega)).trans hcp
  have hnz : ((r.length : Int) + 1 == 0) = false := by rw [beq_eq_false_iff_ne]; omega
  have HVs := hid hVs
  have HSH := hid hsh
  unfold maxLen at hl2
  rw [hlen] at hl1 ⊢
  clear hVs h3 hcell hn0 hsh
  have e0 : str8 [] = ⟨#[]⟩ := rfl
  try rw [e0]
  have hb : ∀ (o : Obj), Below w.heap.size w (w.alloc o) := fun o => (Below.refl _ _).alloc (Nat.le_refl _) _
  go_enter Tryd.func20, Tryd.ntmps20
  go_wp2
  exact bodyPost_ret (v := .tuple #[.agg #[.int .i64 0, .int .i64 0, .string ⟨#[]⟩], .int .i64 1, .int .i64 0]) (by simp [results, Tryd.results20, go_sem]) rfl ⟨rfl, hb _⟩

set_option maxHeartbeats 1000000 in
theorem dtakeKey_form (B0 : Nat) (v : Value) (c : UInt8) (r : List UInt8) (w : World) (hB : B0 ≤ w.heap.size) (hsh : Shows B0 w v (c :: r)) (hl : r.length ≤ 140737488351232) (h0 : c ≠ 0) (h1 : c ≠ 1) (h2 : c ≠ 2) (q : Int) (hq : (c.toNat : Int) = q) :
    Calls Tryd.prog 20 #[v] w fun e w' => e = .returned (.tuple #[.agg #[.int .i64 0, .int .i64 0, .string (str8 [])], .int .i64 0, .int .i64 4]) ∧ Below w.heap.size w w' := by
  have n0 := toNat_ne c 0 h0
  have n1 := toNat_ne c 1 h1
  have n2 := toNat_ne c 2 h2
  simp only [show ((0 : UInt8).toNat : Int) = 0 from rfl, show ((1 : UInt8).toNat : Int) = 1 from rfl, show ((2 : UInt8).toNat : Int) = 2 from rfl] at n0 n1 n2
  rw [hq] at n0 n1 n2
  have q0 : 0 ≤ q := by omega
  have q1 : q ≤ 255 := by have := c.toNat_lt; omega
  clear h0 h1 h2
  obtain ⟨a, cp, rfl, hl1, hl2, hn0, h3⟩ := id hsh
  have hlen : (c :: r).length = r.length + 1 := rfl
  obtain ⟨b, off, rfl, hbB, hcell⟩ := h3 (by simp)
  obtain ⟨V, hV, hVs⟩ := from_any (p := 1) hsh (by simp) (by simp)
  have hcp : w.cell? ⟨b, off, none⟩ = some (.int .u8 q) := by have := hcell 0 (by simp); simp only [List.getElem?_cons_zero, Option.getD_some, Nat.add_zero] at this; rw [hq] at this; exact this
  have hV : ∀ w, (Instr.slice 30 (.slice (some ⟨b, off, none⟩) (r.length + 1) cp) (some (.int .i64 1)) none none).run Tryd.prog w = .ok V w := hV
  have hcp2 : ∀ o, (w.alloc o).cell? ⟨b, off, none⟩ = some (.int .u8 q) := fun o => (((Below.refl _ w).alloc (Nat.le_refl _) o).cell (p := ⟨b, off, none⟩) (by show b < _; omega)).trans hcp
  have hnz : ((r.length : Int) + 1 == 0) = false := by rw [beq_eq_false_iff_ne]; omega
  have HVs := hid hVs
  have HSH := hid hsh
  unfold maxLen at hl2
  rw [hlen] at hl1 ⊢
  clear hVs h3 hcell hn0 hsh
  have e0 : str8 [] = ⟨#[]⟩ := rfl
  try rw [e0]
  have hb : ∀ (o : Obj), Below w.heap.size w (w.alloc o) := fun o => (Below.refl _ _).alloc (Nat.le_refl _) _
  go_enter Tryd.func20, Tryd.ntmps20
  go_wp2
  exact bodyPost_ret (v := .tuple #[.agg #[.int .i64 0, .int .i64 0, .string ⟨#[]⟩], .int .i64 0, .int .i64 4]) (by simp [results, Tryd.results20, go_sem]) rfl ⟨rfl, hb _⟩

set_option maxHeartbeats 1000000 in
theorem dtakeKey_short (B0 : Nat) (v : Value) (c : UInt8) (r : List UInt8) (w : World) (hB : B0 ≤ w.heap.size) (hsh : Shows B0 w v (c :: r)) (hl : r.length ≤ 140737488351232) (hc : c = 1) (h8 : r.length < 8) :
    Calls Tryd.prog 20 #[v] w fun e w' => e = .returned (.tuple #[.agg #[.int .i64 0, .int .i64 0, .string (str8 [])], .int .i64 0, .int .i64 3]) ∧ Below w.heap.size w w' := by
  obtain ⟨a, cp, rfl, hl1, hl2, hn0, h3⟩ := id hsh
  have hlen : (c :: r).length = r.length + 1 := rfl
  obtain ⟨b, off, rfl, hbB, hcell⟩ := h3 (by simp)
  obtain ⟨V, hV, hVs⟩ := from_any (p := 1) hsh (by simp) (by simp)
  have hcp : w.cell? ⟨b, off, none⟩ = some (.int .u8 1) := by have := hcell 0 (by simp); simp only [List.getElem?_cons_zero, Option.getD_some, Nat.add_zero] at this; rw [hc] at this; exact this
  have hV : ∀ w, (Instr.slice 30 (.slice (some ⟨b, off, none⟩) (r.length + 1) cp) (some (.int .i64 1)) none none).run Tryd.prog w = .ok V w := hV
  have hcp2 : ∀ o, (w.alloc o).cell? ⟨b, off, none⟩ = some (.int .u8 1) := fun o => (((Below.refl _ w).alloc (Nat.le_refl _) o).cell (p := ⟨b, off, none⟩) (by show b < _; omega)).trans hcp
  have hnz : ((r.length : Int) + 1 == 0) = false := by rw [beq_eq_false_iff_ne]; omega
  have HVs := hid hVs
  have HSH := hid hsh
  unfold maxLen at hl2
  rw [hlen] at hl1 ⊢
  clear hVs h3 hcell hn0 hsh
  have e0 : str8 [] = ⟨#[]⟩ := rfl
  try rw [e0]
  go_enter Tryd.func20, Tryd.ntmps20
  go_wp2_with fail
  obtain ⟨W, hW, hbW, hzW, hcW⟩ := box3h w (.int .i64 0) (.int .i64 0) (.string ⟨#[]⟩) 23
  have HCW := hid hcW
  have HSV : Shows B0 W V r := HVs.out W (HSH.out.below (hbW.mono hB))
  have hBW : B0 ≤ W.heap.size := by omega
  rw [hW]
  clear hW hcW
  refine (refTakeNumKey_any B0 V r W hBW HSV).mono ?_
  rw [tnum_short h8]
  rintro e X ⟨rfl, hbX⟩
  have HX := hbW.trans (hbX.mono (by omega))
  have f0 := cells3 (HCW.out X hbX)
  have HD := hid HX
  clear hbW hzW hbX HX
  go_wp2
  exact bodyPost_ret (v := .tuple #[.agg #[.int .i64 0, .int .i64 0, .string ⟨#[]⟩], .int .i64 0, .int .i64 3]) (by simp [results, Tryd.results20, go_sem, f0]) rfl ⟨rfl, ((HD.out.setCell (Nat.le_refl _) _).setCell (Nat.le_refl _) _).setCell (Nat.le_refl _) _⟩

set_option maxHeartbeats 1000000 in
theorem dtakeKey_num (B0 : Nat) (v : Value) (c : UInt8) (r : List UInt8) (w : World) (hB : B0 ≤ w.heap.size) (hsh : Shows B0 w v (c :: r)) (hl : r.length ≤ 140737488351232) (hc : c = 1) (h8 : ¬ r.length < 8) (n : Int) (hn : i64of (num (r.take 8) + 9223372036854775808) = n) :
    Calls Tryd.prog 20 #[v] w fun e w' => e = .returned (.tuple #[.agg #[.int .i64 1, .int .i64 n, .string (str8 [])], .int .i64 9, .int .i64 0]) ∧ Below w.heap.size w w' := by
  obtain ⟨a, cp, rfl, hl1, hl2, hn0, h3⟩ := id hsh
  have hlen : (c :: r).length = r.length + 1 := rfl
  obtain ⟨b, off, rfl, hbB, hcell⟩ := h3 (by simp)
  obtain ⟨V, hV, hVs⟩ := from_any (p := 1) hsh (by simp) (by simp)
  have hcp : w.cell? ⟨b, off, none⟩ = some (.int .u8 1) := by have := hcell 0 (by simp); simp only [List.getElem?_cons_zero, Option.getD_some, Nat.add_zero] at this; rw [hc] at this; exact this
  have hV : ∀ w, (Instr.slice 30 (.slice (some ⟨b, off, none⟩) (r.length + 1) cp) (some (.int .i64 1)) none none).run Tryd.prog w = .ok V w := hV
  have hcp2 : ∀ o, (w.alloc o).cell? ⟨b, off, none⟩ = some (.int .u8 1) := fun o => (((Below.refl _ w).alloc (Nat.le_refl _) o).cell (p := ⟨b, off, none⟩) (by show b < _; omega)).trans hcp
  have hnz : ((r.length : Int) + 1 == 0) = false := by rw [beq_eq_false_iff_ne]; omega
  have HVs := hid hVs
  have HSH := hid hsh
  unfold maxLen at hl2
  rw [hlen] at hl1 ⊢
  clear hVs h3 hcell hn0 hsh
  have e0 : str8 [] = ⟨#[]⟩ := rfl
  try rw [e0]
  go_enter Tryd.func20, Tryd.ntmps20
  go_wp2_with fail
  obtain ⟨W, hW, hbW, hzW, hcW⟩ := box3h w (.int .i64 0) (.int .i64 0) (.string ⟨#[]⟩) 23
  have HCW := hid hcW
  have HSV : Shows B0 W V r := HVs.out W (HSH.out.below (hbW.mono hB))
  have hBW : B0 ≤ W.heap.size := by omega
  rw [hW]
  clear hW hcW
  refine (refTakeNumKey_any B0 V r W hBW HSV).mono ?_
  rw [tnum_long h8, hn]
  rintro e X ⟨rfl, hbX⟩
  have HX := hbW.trans (hbX.mono (by omega))
  have f0 := cells3 (HCW.out X hbX)
  have HD := hid HX
  clear hbW hzW hbX HX
  go_wp2
  exact bodyPost_ret (v := .tuple #[.agg #[.int .i64 1, .int .i64 n, .string ⟨#[]⟩], .int .i64 9, .int .i64 0]) (by simp [results, Tryd.results20, go_sem, f0]) rfl ⟨rfl, ((HD.out.setCell (Nat.le_refl _) _).setCell (Nat.le_refl _) _).setCell (Nat.le_refl _) _⟩

set_option maxHeartbeats 1000000 in
theorem dtakeKey_terr (B0 : Nat) (v : Value) (c : UInt8) (r : List UInt8) (w : World) (hB : B0 ≤ w.heap.size) (hsh : Shows B0 w v (c :: r)) (hl : r.length ≤ 140737488351232) (hc : c = 2) (er : Nat) (he : ttext r = (er, [], 0)) (her : er ≠ 0) :
    Calls Tryd.prog 20 #[v] w fun e w' => e = .returned (.tuple #[.agg #[.int .i64 0, .int .i64 0, .string (str8 [])], .int .i64 0, .int .i64 er]) ∧ Below w.heap.size w w' := by
  have her' : (((er : Nat) : Int) == 0) = false := by rw [beq_eq_false_iff_ne]; omega
  obtain ⟨a, cp, rfl, hl1, hl2, hn0, h3⟩ := id hsh
  have hlen : (c :: r).length = r.length + 1 := rfl
  obtain ⟨b, off, rfl, hbB, hcell⟩ := h3 (by simp)
  obtain ⟨V, hV, hVs⟩ := from_any (p := 1) hsh (by simp) (by simp)
  have hcp : w.cell? ⟨b, off, none⟩ = some (.int .u8 2) := by have := hcell 0 (by simp); simp only [List.getElem?_cons_zero, Option.getD_some, Nat.add_zero] at this; rw [hc] at this; exact this
  have hV : ∀ w, (Instr.slice 30 (.slice (some ⟨b, off, none⟩) (r.length + 1) cp) (some (.int .i64 1)) none none).run Tryd.prog w = .ok V w := hV
  have hcp2 : ∀ o, (w.alloc o).cell? ⟨b, off, none⟩ = some (.int .u8 2) := fun o => (((Below.refl _ w).alloc (Nat.le_refl _) o).cell (p := ⟨b, off, none⟩) (by show b < _; omega)).trans hcp
  have hnz : ((r.length : Int) + 1 == 0) = false := by rw [beq_eq_false_iff_ne]; omega
  have HVs := hid hVs
  have HSH := hid hsh
  unfold maxLen at hl2
  rw [hlen] at hl1 ⊢
  clear hVs h3 hcell hn0 hsh
  have e0 : str8 [] = ⟨#[]⟩ := rfl
  try rw [e0]
  go_enter Tryd.func20, Tryd.ntmps20
  go_wp2_with fail
  obtain ⟨W, hW, hbW, hzW, hcW⟩ := box3h w (.int .i64 0) (.int .i64 0) (.string ⟨#[]⟩) 23
  have HCW := hid hcW
  have HSV : Shows B0 W V r := HVs.out W (HSH.out.below (hbW.mono hB))
  have hBW : B0 ≤ W.heap.size := by omega
  rw [hW]
  clear hW hcW
  refine (refTakeText_any B0 V r W hBW HSV hl).mono ?_
  rw [he]
  rintro e X ⟨rfl, hbX⟩
  have HX := hbW.trans (hbX.mono (by omega))
  have f0 := cells3 (HCW.out X hbX)
  have HD := hid HX
  clear hbW hzW hbX HX
  go_wp2
  exact bodyPost_ret (v := .tuple #[.agg #[.int .i64 0, .int .i64 0, .string ⟨#[]⟩], .int .i64 0, .int .i64 er]) (by simp [results, Tryd.results20, go_sem, f0]) rfl ⟨rfl, ((HD.out.setCell (Nat.le_refl _) _).setCell (Nat.le_refl _) _).setCell (Nat.le_refl _) _⟩

set_option maxHeartbeats 1000000 in
theorem dtakeKey_tlong (B0 : Nat) (v : Value) (c : UInt8) (r : List UInt8) (w : World) (hB : B0 ≤ w.heap.size) (hsh : Shows B0 w v (c :: r)) (hl : r.length ≤ 140737488351232) (hc : c = 2) (s : List UInt8) (q : Nat) (he : ttext r = (0, s, q)) (hs : 40 < s.length) (hs2 : s.length ≤ 140737488351232) :
    Calls Tryd.prog 20 #[v] w fun e w' => e = .returned (.tuple #[.agg #[.int .i64 0, .int .i64 0, .string (str8 [])], .int .i64 0, .int .i64 2]) ∧ Below w.heap.size w w' := by
  have hls : (40 : Int) < ((str8 s).size : Int) := by rw [str8_size]; omega
  obtain ⟨a, cp, rfl, hl1, hl2, hn0, h3⟩ := id hsh
  have hlen : (c :: r).length = r.length + 1 := rfl
  obtain ⟨b, off, rfl, hbB, hcell⟩ := h3 (by simp)
  obtain ⟨V, hV, hVs⟩ := from_any (p := 1) hsh (by simp) (by simp)
  have hcp : w.cell? ⟨b, off, none⟩ = some (.int .u8 2) := by have := hcell 0 (by simp); simp only [List.getElem?_cons_zero, Option.getD_some, Nat.add_zero] at this; rw [hc] at this; exact this
  have hV : ∀ w, (Instr.slice 30 (.slice (some ⟨b, off, none⟩) (r.length + 1) cp) (some (.int .i64 1)) none none).run Tryd.prog w = .ok V w := hV
  have hcp2 : ∀ o, (w.alloc o).cell? ⟨b, off, none⟩ = some (.int .u8 2) := fun o => (((Below.refl _ w).alloc (Nat.le_refl _) o).cell (p := ⟨b, off, none⟩) (by show b < _; omega)).trans hcp
  have hnz : ((r.length : Int) + 1 == 0) = false := by rw [beq_eq_false_iff_ne]; omega
  have HVs := hid hVs
  have HSH := hid hsh
  unfold maxLen at hl2
  rw [hlen] at hl1 ⊢
  clear hVs h3 hcell hn0 hsh
  have e0 : str8 [] = ⟨#[]⟩ := rfl
  try rw [e0]
  go_enter Tryd.func20, Tryd.ntmps20
  go_wp2_with fail
  obtain ⟨W, hW, hbW, hzW, hcW⟩ := box3h w (.int .i64 0) (.int .i64 0) (.string ⟨#[]⟩) 23
  have HCW := hid hcW
  have HSV : Shows B0 W V r := HVs.out W (HSH.out.below (hbW.mono hB))
  have hBW : B0 ≤ W.heap.size := by omega
  rw [hW]
  clear hW hcW
  refine (refTakeText_any B0 V r W hBW HSV hl).mono ?_
  rw [he]
  rintro e X ⟨rfl, hbX⟩
  have HX := hbW.trans (hbX.mono (by omega))
  have f0 := cells3 (HCW.out X hbX)
  have HD := hid HX
  clear hbW hzW hbX HX
  go_wp2
  exact bodyPost_ret (v := .tuple #[.agg #[.int .i64 0, .int .i64 0, .string ⟨#[]⟩], .int .i64 0, .int .i64 2]) (by simp [results, Tryd.results20, go_sem, f0]) rfl ⟨rfl, ((HD.out.setCell (Nat.le_refl _) _).setCell (Nat.le_refl _) _).setCell (Nat.le_refl _) _⟩

set_option maxHeartbeats 1000000 in
theorem dtakeKey_text (B0 : Nat) (v : Value) (c : UInt8) (r : List UInt8) (w : World) (hB : B0 ≤ w.heap.size) (hsh : Shows B0 w v (c :: r)) (hl : r.length ≤ 140737488351232) (hc : c = 2) (s : List UInt8) (q : Nat) (he : ttext r = (0, s, q)) (hs : ¬ 40 < s.length) (hq : q ≤ 140737488351232) :
    Calls Tryd.prog 20 #[v] w fun e w' => e = .returned (.tuple #[.agg #[.int .i64 2, .int .i64 0, .string (str8 s)], .int .i64 (1 + (q : Int)), .int .i64 0]) ∧ Below w.heap.size w w' := by
  have hls : ¬ ((40 : Int) < ((str8 s).size : Int)) := by rw [str8_size]; omega
  obtain ⟨a, cp, rfl, hl1, hl2, hn0, h3⟩ := id hsh
  have hlen : (c :: r).length = r.length + 1 := rfl
  obtain ⟨b, off, rfl, hbB, hcell⟩ := h3 (by simp)
  obtain ⟨V, hV, hVs⟩ := from_any (p := 1) hsh (by simp) (by simp)
  have hcp : w.cell? ⟨b, off, none⟩ = some (.int .u8 2) := by have := hcell 0 (by simp); simp only [List.getElem?_cons_zero, Option.getD_some, Nat.add_zero] at this; rw [hc] at this; exact this
  have hV : ∀ w, (Instr.slice 30 (.slice (some ⟨b, off, none⟩) (r.length + 1) cp) (some (.int .i64 1)) none none).run Tryd.prog w = .ok V w := hV
  have hcp2 : ∀ o, (w.alloc o).cell? ⟨b, off, none⟩ = some (.int .u8 2) := fun o => (((Below.refl _ w).alloc (Nat.le_refl _) o).cell (p := ⟨b, off, none⟩) (by show b < _; omega)).trans hcp
  have hnz : ((r.length : Int) + 1 == 0) = false := by rw [beq_eq_false_iff_ne]; omega
  have HVs := hid hVs
  have HSH := hid hsh
  unfold maxLen at hl2
  rw [hlen] at hl1 ⊢
  clear hVs h3 hcell hn0 hsh
  have e0 : str8 [] = ⟨#[]⟩ := rfl
  try rw [e0]
  go_enter Tryd.func20, Tryd.ntmps20
  go_wp2_with fail
  obtain ⟨W, hW, hbW, hzW, hcW⟩ := box3h w (.int .i64 0) (.int .i64 0) (.string ⟨#[]⟩) 23
  have HCW := hid hcW
  have HSV : Shows B0 W V r := HVs.out W (HSH.out.below (hbW.mono hB))
  have hBW : B0 ≤ W.heap.size := by omega
  rw [hW]
  clear hW hcW
  refine (refTakeText_any B0 V r W hBW HSV hl).mono ?_
  rw [he]
  rintro e X ⟨rfl, hbX⟩
  have HX := hbW.trans (hbX.mono (by omega))
  have f0 := cells3 (HCW.out X hbX)
  have HD := hid HX
  clear hbW hzW hbX HX
  go_wp2
  exact bodyPost_ret (v := .tuple #[.agg #[.int .i64 2, .int .i64 0, .string (str8 s)], .int .i64 (1 + (q : Int)), .int .i64 0]) (by simp [results, Tryd.results20, go_sem, f0]) rfl ⟨rfl, ((HD.out.setCell (Nat.le_refl _) _).setCell (Nat.le_refl _) _).setCell (Nat.le_refl _) _⟩

theorem dtakeKey_any (B0 : Nat) (v : Value) (bs : List UInt8) (w : World) (hB : B0 ≤ w.heap.size) (hsh : Shows B0 w v bs) (hl : bs.length ≤ 140737488351232) :
    Calls Tryd.prog 20 #[v] w fun e w' => e = .returned (.tuple #[.agg #[.int .i64 (tkV bs).2.1.k, .int .i64 (tkV bs).2.1.n, .string (str8 (tkV bs).2.1.s)], .int .i64 (tkV bs).2.2, .int .i64 (tkV bs).1]) ∧ Below w.heap.size w w' := by
  match bs, hsh, hl with
  | [], hsh, _ =>
    obtain ⟨a, c, rfl, _⟩ := hsh
    exact dtakeKey_none a c w
  | c :: r, hsh, hl =>
    have hl' : r.length ≤ 140737488351232 := by simp at hl; omega
    by_cases h0 : c = 0
    · rw [show tkV (c :: r) = (0, zV, 1) from by rw [tkV, if_pos h0]]
      exact dtakeKey_null B0 v c r w hB hsh hl' h0
    · by_cases h1 : c = 1
      · by_cases h8 : r.length < 8
        · rw [show tkV (c :: r) = (3, zV, 0) from by rw [tkV, if_neg h0, if_pos h1, if_pos h8]]
          exact dtakeKey_short B0 v c r w hB hsh hl' h1 h8
        · rw [show tkV (c :: r) = (0, ⟨1, i64of (num (r.take 8) + 9223372036854775808), []⟩, 9) from by rw [tkV, if_neg h0, if_pos h1, if_neg h8]]
          exact dtakeKey_num B0 v c r w hB hsh hl' h1 h8 _ rfl
      · by_cases h2 : c = 2
        · have hu := ttext_used r
          by_cases he : (ttext r).1 = 0
          · have ht : ttext r = (0, (ttext r).2.1, (ttext r).2.2) := Prod.ext he rfl
            by_cases hs : 40 < (ttext r).2.1.length
            · rw [show tkV (c :: r) = (2, zV, 0) from by rw [tkV, if_neg h0, if_neg h1, if_pos h2, if_neg (by simpa using he), if_pos hs]]
              exact dtakeKey_tlong B0 v c r w hB hsh hl' h2 _ _ ht hs (by omega)
            · rw [show tkV (c :: r) = (0, ⟨2, 0, (ttext r).2.1⟩, 1 + (ttext r).2.2) from by rw [tkV, if_neg h0, if_neg h1, if_pos h2, if_neg (by simpa using he), if_neg hs]]
              have := dtakeKey_text B0 v c r w hB hsh hl' h2 _ _ ht hs (by omega)
              rw [show (1 + ((ttext r).2.2 : Int)) = ((1 + (ttext r).2.2 : Nat) : Int) by omega] at this
              exact this
          · rw [show tkV (c :: r) = ((ttext r).1, zV, 0) from by rw [tkV, if_neg h0, if_neg h1, if_pos h2, if_pos he]]
            exact dtakeKey_terr B0 v c r w hB hsh hl' h2 _ (by have := ttext_errs r he; exact Prod.ext rfl this) he
        · rw [show tkV (c :: r) = (4, zV, 0) from by rw [tkV, if_neg h0, if_neg h1, if_neg h2]]
          exact dtakeKey_form B0 v c r w hB hsh hl' h0 h1 h2 _ rfl
end Go.Proofs.YtlcoeoilakobjaaDoor
