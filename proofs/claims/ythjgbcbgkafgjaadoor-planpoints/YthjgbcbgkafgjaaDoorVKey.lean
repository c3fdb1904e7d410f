/- Contracts of value.appendKey and value.Key. -/
import Derived.Test.YthjgbcbgkafgjaaDoorVRight
import Derived.Test.YthjgbcbgkafgjaaDoorText
namespace Go.Proofs.YthjgbcbgkafgjaaDoor
open Go.RowKit
set_option linter.unusedVariables false
set_option linter.unusedSimpArgs false
set_option maxRecDepth 20000

/-- A value's key. -/
def keyV (x : Vl) : List UInt8 := if x.k = 1 then 1 :: be (u64of (x.n + 9223372036854775808)) 8 else if x.k = 2 then 2 :: tkey x.s else [0]

theorem rightV_cases {x : Vl} (h : rightV x = 0) : x.s.length ≤ 40 ∧ (x.k = 0 ∧ x.n = 0 ∧ x.s = [] ∨ x.k = 1 ∧ x.s = [] ∨ x.k = 2 ∧ x.n = 0) := by
  obtain ⟨k, n, s⟩ := x
  unfold rightV at h
  split at h
  · cases h
  · rename_i hq
    split at h
    · cases h
    · rename_i hl
      have hq' : eqv ⟨k, n, s⟩ (namedV ⟨k, n, s⟩) = true := by simpa using hq
      rw [eqv_iff] at hq'
      refine ⟨by simpa using hl, ?_⟩
      unfold namedV at hq'
      dsimp only at hq' ⊢
      split at hq'
      · simp only [Vl.mk.injEq] at hq'; exact .inr (.inl ⟨hq'.1, hq'.2.2⟩)
      · split at hq'
        · simp only [Vl.mk.injEq] at hq'; exact .inr (.inr ⟨hq'.1, hq'.2.1⟩)
        · simp only [Vl.mk.injEq] at hq'; exact .inl hq'

theorem grown_cell {w w' : World} {row : Option Nat} (hg : w.grownBy w' row) {g : Nat} (i : Nat) (hlt : g < w.heap.size) (hne : ∀ q, row = some q → q ≠ g) : w'.cell? ⟨g, i, none⟩ = w.cell? ⟨g, i, none⟩ :=
  World.cell?_of_block (hg.block g hlt fun e => hne g e.symm rfl)

theorem grown_of_below {w w' : World} (h : Below w.heap.size w w') : w.grownBy w' none := ⟨h.os, h.tape, h.output, h.size, fun k hk _ => h.block k hk⟩

theorem tkey_le (s : List UInt8) : (tkey s).length ≤ 2 * s.length + 2 := by
  have := escs_le s
  simp [tkey]
  omega

theorem numKey_len (n : Int) (w : World) :
    Calls Tryd.prog 42 #[.int .i64 n] w fun e w' => ∃ v', e = .returned v' ∧ w'.ownsRow w.heap.size 5 1 v' (be (u64of (n + 9223372036854775808)) 8).length ((be (u64of (n + 9223372036854775808)) 8).map by8) ∧ Below w.heap.size w w' := by
  rw [be_length]
  exact numKey_any n w

theorem textKey_len (s : List UInt8) (w : World) (hs : s.length ≤ 70368744177000) :
    Calls Tryd.prog 43 #[.string (str8 s)] w fun e w' => ∃ v', e = .returned v' ∧ w'.ownsRow w.heap.size 5 1 v' (tkey s).length ((tkey s).map by8) ∧ Below w.heap.size w w' :=
  textKey_any (str8 s) w hs

set_option maxHeartbeats 1000000 in
theorem appendKey_any (B : Nat) (v : Value) (m : Nat) (xs : List Value) (k n : Int) (s : List UInt8) (w : World) (hB : B ≤ w.heap.size) (hown : w.ownsRow B 5 1 v m xs) (hr : rightV ⟨k, n, s⟩ = 0) (hm : m ≤ 70368744177664) :
    Calls Tryd.prog 34 #[v, .agg #[.int .i64 k, .int .i64 n, .string (str8 s)]] w fun e w' => ∃ v', e = .returned v' ∧ w'.ownsRow B 5 1 v' (m + (keyV ⟨k, n, s⟩).length) (xs ++ (keyV ⟨k, n, s⟩).map by8) ∧ Below B w w' := by
  obtain ⟨i0, hi, hz0, hz1, hz2⟩ := info_parts Tryd.infoU8
  obtain ⟨hl, hc⟩ := rightV_cases hr
  dsimp only at hl hc
  obtain ⟨W, hW, hbW, hzW, hcW⟩ := box3 w (.int .i64 k) (.int .i64 n) (.string (str8 s)) 23
  have c0 := hcW W (Below.refl _ _)
  have hownW : W.ownsRow B 5 1 v m xs := by rw [← hW]; exact hown.alloc _
  have hlt : ∀ q, v.ownBlock = some q → q ≠ w.heap.size := fun q hq => by have := (hown.lt q hq).2; omega
  have hge : ∀ q, v.ownBlock = some q → B ≤ q := fun q hq => (hown.lt q hq).1
  have hBW : B ≤ W.heap.size := by omega
  have HBW := hid (hbW.mono hB)
  clear hcW hbW hr
  -- what the first append leaves
  have step : ∀ (b : Int) (v2 : Value) (w2 : World), w2.ownsRow B 5 1 v2 (m + 1) (xs ++ [.int .u8 b]) → (W.alloc (.cells #[.int .u8 b] 5)).grownBy w2 v.ownBlock →
      Below B w w2 ∧ w2.cell? ⟨w.heap.size, 0, none⟩ = some (.int .i64 k) ∧ w2.cell? ⟨w.heap.size, 1, none⟩ = some (.int .i64 n) ∧ w2.cell? ⟨w.heap.size, 2, none⟩ = some (.string (str8 s)) := fun b v2 w2 ho hg => by
    have hlt2 : w.heap.size < (W.alloc (.cells #[.int .u8 b] 5)).heap.size := by simp; omega
    have old : ∀ i, (W.alloc (.cells #[.int .u8 b] 5)).cell? ⟨w.heap.size, i, none⟩ = W.cell? ⟨w.heap.size, i, none⟩ := fun i => ((Below.refl _ W).alloc (Nat.le_refl _) _).cell (p := ⟨w.heap.size, i, none⟩) (by show w.heap.size < _; omega)
    refine ⟨(HBW.out.alloc hBW _).grown hg (by simp; omega) hge, ?_, ?_, ?_⟩
    · rw [grown_cell hg 0 hlt2 hlt, old]; exact c0.1
    · rw [grown_cell hg 1 hlt2 hlt, old]; exact c0.2.1
    · rw [grown_cell hg 2 hlt2 hlt, old]; exact c0.2.2
  have HS := hid step
  clear step
  rcases hc with ⟨rfl, rfl, rfl⟩ | ⟨rfl, rfl⟩ | ⟨rfl, rfl⟩
  · have hd : keyV ⟨0, 0, []⟩ = [0] := rfl
    rw [hd]
    clear hd
    go_enter Tryd.func34, Tryd.ntmps34
    go_wp2_with (first
      | (at_builtin; refine wpList_append_own _ rfl (.tmp 5) (.tmp 9) 29 rfl B 5 i0 (.int .u8 0) 1 1 Tryd.underlying29 hi hz0 hz1 hz2 rfl (by decide) _ _ _ rfl (hownW.alloc _) ⟨W.heap.size, 0, none⟩ 1 1 [.int .u8 0] rfl rfl (one_cell _ _ _) (by intro u hu; simp at hu; subst hu; rfl) (by unfold maxLen; omega) (by omega) (by simp; omega) ?_; intro v2 w2 hown2 hg2 _; obtain ⟨hb2, c20, c21, c22⟩ := HS.out _ _ _ hown2 hg2)
      | fail)
    go_ret
    exact ⟨_, rfl, hown2, hb2⟩
  · have hd : keyV ⟨1, n, []⟩ = 1 :: be (u64of (n + 9223372036854775808)) 8 := rfl
    have HNK := fun w => numKey_len n w
    have hlb : (be (u64of (n + 9223372036854775808)) 8).length ≤ 100 := by rw [be_length]; omega
    obtain ⟨K, hK⟩ : ∃ K, be (u64of (n + 9223372036854775808)) 8 = K := ⟨_, rfl⟩
    rw [hK] at hd HNK hlb
    rw [hd]
    clear hd hK
    have HNK := hid HNK
    go_enter Tryd.func34, Tryd.ntmps34
    go_wp2_with (first
      | (at_builtin; refine wpList_append_own _ rfl (.tmp 5) (.tmp 9) 29 rfl B 5 i0 (.int .u8 0) 1 1 Tryd.underlying29 hi hz0 hz1 hz2 rfl (by decide) _ _ _ rfl (hownW.alloc _) ⟨W.heap.size, 0, none⟩ 1 1 [.int .u8 1] rfl rfl (one_cell _ _ _) (by intro u hu; simp at hu; subst hu; rfl) (by unfold maxLen; omega) (by omega) (by simp; omega) ?_; intro v2 w2 hown2 hg2 _; obtain ⟨hb2, c20, c21, c22⟩ := HS.out _ _ _ hown2 hg2)
      | fail)
    have hsz2 := hb2.size
    refine (HNK.out _).mono ?_
    rintro e w3 ⟨v3, rfl, hown3, hb3⟩
    have hsz3 := hb3.size
    have hown23 : w3.ownsRow B 5 1 v2 (m + 1) (xs ++ [.int .u8 1]) := hown2.kept (grown_of_below hb3) (by cases h : v2.ownBlock <;> simp)
    have hsh3 := (shows_of_owns hown3).2
    have HB3 := hid (hb2.trans (hb3.mono (by omega)))
    have HL2 := hid (fun q hq => (hown23.lt q hq).1 : ∀ q, v2.ownBlock = some q → B ≤ q)
    clear hown2 hown3 hb3 hb2
    go_wp2_with (first | (at_builtin; refine wpList_append_shows _ rfl _ _ 29 rfl B 5 i0 Tryd.underlying29 hi hz0 hz1 hz2 _ _ _ rfl hown23 w3.heap.size _ K rfl hsh3 ?_ ?_ ?_) | go_in)
    · omega
    · omega
    · intro v' w4 hown4 hg4 _
      go_wp2
      go_ret
      refine ⟨_, rfl, ?_, HB3.out.grown hg4 (by omega) HL2.out⟩
      have e : m + (K.length + 1) = m + 1 + K.length := by omega
      rw [e]
      simpa [by8] using hown4
  · have hd : keyV ⟨2, 0, s⟩ = 2 :: tkey s := rfl
    have HNK := fun w => textKey_len s w (by omega)
    have hlb : (tkey s).length ≤ 100 := by have := tkey_le s; omega
    obtain ⟨K, hK⟩ : ∃ K, tkey s = K := ⟨_, rfl⟩
    rw [hK] at hd HNK hlb
    rw [hd]
    clear hd hK
    have HNK := hid HNK
    go_enter Tryd.func34, Tryd.ntmps34
    go_wp2_with (first
      | (at_builtin; refine wpList_append_own _ rfl (.tmp 5) (.tmp 9) 29 rfl B 5 i0 (.int .u8 0) 1 1 Tryd.underlying29 hi hz0 hz1 hz2 rfl (by decide) _ _ _ rfl (hownW.alloc _) ⟨W.heap.size, 0, none⟩ 1 1 [.int .u8 2] rfl rfl (one_cell _ _ _) (by intro u hu; simp at hu; subst hu; rfl) (by unfold maxLen; omega) (by omega) (by simp; omega) ?_; intro v2 w2 hown2 hg2 _; obtain ⟨hb2, c20, c21, c22⟩ := HS.out _ _ _ hown2 hg2)
      | fail)
    have hsz2 := hb2.size
    refine (HNK.out _).mono ?_
    rintro e w3 ⟨v3, rfl, hown3, hb3⟩
    have hsz3 := hb3.size
    have hown23 : w3.ownsRow B 5 1 v2 (m + 1) (xs ++ [.int .u8 2]) := hown2.kept (grown_of_below hb3) (by cases h : v2.ownBlock <;> simp)
    have hsh3 := (shows_of_owns hown3).2
    have HB3 := hid (hb2.trans (hb3.mono (by omega)))
    have HL2 := hid (fun q hq => (hown23.lt q hq).1 : ∀ q, v2.ownBlock = some q → B ≤ q)
    clear hown2 hown3 hb3 hb2
    go_wp2_with (first | (at_builtin; refine wpList_append_shows _ rfl _ _ 29 rfl B 5 i0 Tryd.underlying29 hi hz0 hz1 hz2 _ _ _ rfl hown23 w3.heap.size _ K rfl hsh3 ?_ ?_ ?_) | go_in)
    · omega
    · omega
    · intro v' w4 hown4 hg4 _
      go_wp2
      go_ret
      refine ⟨_, rfl, ?_, HB3.out.grown hg4 (by omega) HL2.out⟩
      have e : m + (K.length + 1) = m + 1 + K.length := by omega
      rw [e]
      simpa [by8] using hown4

/-- What Key answers: the error, the bytes. -/
def keyOfV (x : Vl) : List UInt8 := if rightV x = 0 then keyV x else []

set_option maxHeartbeats 1000000 in
theorem key_any (k n : Int) (s : List UInt8) (w : World) (hs : s.length ≤ 9223372036854775807) :
    Calls Tryd.prog 22 #[.agg #[.int .i64 k, .int .i64 n, .string (str8 s)]] w fun e w' => ∃ v', e = .returned (.tuple #[v', .int .i64 (rightV ⟨k, n, s⟩)]) ∧ w'.ownsRow w.heap.size 5 1 v' (keyOfV ⟨k, n, s⟩).length ((keyOfV ⟨k, n, s⟩).map by8) ∧ Below w.heap.size w w' := by
  obtain ⟨W, hW, hbW, hzW, hcW⟩ := box3 w (.int .i64 k) (.int .i64 n) (.string (str8 s)) 23
  have c0 := hcW W (Below.refl _ _)
  have HR := hid (right_any k n s W hs)
  have HB := hid hbW
  have HC := hid hcW
  clear hcW hbW
  have HA := hid (fun w2 (hb2 : Below W.heap.size W w2) (hr : rightV ⟨k, n, s⟩ = 0) => appendKey_any w.heap.size (.slice none 0 0) 0 [] k n s w2 (by have := hb2.size; omega) (World.ownsRow_nil _ _ _ _) hr (by omega))
  by_cases hr : rightV ⟨k, n, s⟩ = 0
  · have hd : keyOfV ⟨k, n, s⟩ = keyV ⟨k, n, s⟩ := if_pos hr
    rw [hd]
    clear hd
    rw [hr] at HR ⊢
    have HA := hid (fun w2 hb2 => HA.out w2 hb2 hr)
    clear hr
    generalize keyV ⟨k, n, s⟩ = K at *
    go_enter Tryd.func22, Tryd.ntmps22
    go_wp2_with fail
    refine HR.out.mono ?_
    rintro e w2 ⟨rfl, hb2⟩
    have c2 := HC.out _ hb2
    have hz2 := hb2.size
    go_wp2_with fail
    refine (HA.out w2 hb2).mono ?_
    rintro e w3 ⟨v3, rfl, hown3, hb3⟩
    go_wp2
    go_ret2
    refine ⟨_, rfl, by simpa using hown3, (HB.out.trans (hb2.mono (by omega))).trans hb3⟩
  · have hd : keyOfV ⟨k, n, s⟩ = [] := if_neg hr
    rw [hd]
    clear hd HA
    have hr' : (((rightV ⟨k, n, s⟩ : Nat) : Int) == 0) = false := by rw [beq_eq_false_iff_ne]; omega
    generalize rightV ⟨k, n, s⟩ = R at *
    go_enter Tryd.func22, Tryd.ntmps22
    go_wp2_with fail
    refine HR.out.mono ?_
    rintro e w2 ⟨rfl, hb2⟩
    go_wp2
    go_ret2
    exact ⟨_, rfl, World.ownsRow_nil _ _ _ _, HB.out.trans (hb2.mono (by omega))⟩
end Go.Proofs.YthjgbcbgkafgjaaDoor
