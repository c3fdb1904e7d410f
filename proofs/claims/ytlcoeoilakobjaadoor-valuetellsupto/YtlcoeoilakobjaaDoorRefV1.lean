/- The document's own Right and Compare. -/
import Derived.Test.YtlcoeoilakobjaaDoorVRow
import Derived.Test.YtlcoeoilakobjaaDoorOrdV
namespace Go.Proofs.YtlcoeoilakobjaaDoor
open Go.RowKit
set_option linter.unusedVariables false
set_option linter.unusedSimpArgs false
set_option maxRecDepth 20000

theorem rightV_no {k n : Int} {s : List UInt8} (h : ¬ (k = 0 ∧ n = 0 ∧ s = [] ∨ k = 1 ∧ s = [] ∨ k = 2 ∧ n = 0)) : rightV ⟨k, n, s⟩ = 4 := by
  have : ¬ eqv ⟨k, n, s⟩ (namedV ⟨k, n, s⟩) = true := by
    rw [eqv_iff]
    intro e
    unfold namedV at e
    dsimp only at e
    split at e
    · simp only [Vl.mk.injEq] at e; exact h (.inr (.inl ⟨e.1, e.2.2⟩))
    · split at e
      · simp only [Vl.mk.injEq] at e; exact h (.inr (.inr ⟨e.1, e.2.1⟩))
      · simp only [Vl.mk.injEq] at e; exact h (.inl e)
  rw [rightV, if_pos (by simpa using this)]

theorem empty_str (s : List UInt8) : (str8 s).toList.isEmpty = decide (s = []) := by
  rw [str8_toList]
  cases s <;> simp

set_option maxHeartbeats 1000000 in
theorem dright_any (k n : Int) (s : List UInt8) (w : World) (hs : s.length ≤ 9223372036854775807) :
    Calls Tryd.prog 11 #[.agg #[.int .i64 k, .int .i64 n, .string (str8 s)]] w fun e w' => e = .returned (.int .i64 (rightV ⟨k, n, s⟩)) ∧ Below w.heap.size w w' := by
  have hb : Hid (∀ (o : Obj), Below w.heap.size w (w.alloc o)) := hid fun o => (Below.refl _ _).alloc (Nat.le_refl _) _
  have he := empty_str s
  by_cases hk0 : k < 0
  · have hd := rightV_no (k := k) (n := n) (s := s) (by omega)
    rw [hd]
    have hk0' : decide (k < 0) = true := decide_eq_true hk0
    clear hd he
    go_enter Tryd.func11, Tryd.ntmps11
    go_wp2
    go_ret
    exact ⟨rfl, hb.out _⟩
  · have hk0' : decide (k < 0) = false := decide_eq_false hk0
    by_cases hk2 : 2 < k
    · have hd := rightV_no (k := k) (n := n) (s := s) (by omega)
      rw [hd]
      have hk2' : decide (2 < k) = true := decide_eq_true hk2
      clear hd he
      go_enter Tryd.func11, Tryd.ntmps11
      go_wp2
      go_ret
      exact ⟨rfl, hb.out _⟩
    · obtain rfl | rfl | rfl : k = 0 ∨ k = 1 ∨ k = 2 := by omega
      · clear hk0 hk0' hk2
        by_cases hn : n = 0
        · subst hn
          by_cases hs0 : s = []
          · subst hs0
            rw [show rightV ⟨0, 0, []⟩ = 0 from rfl, show str8 [] = ⟨#[]⟩ from rfl]
            clear he
            go_enter Tryd.func11, Tryd.ntmps11
            go_wp2
            go_ret
            exact ⟨rfl, hb.out _⟩
          · rw [rightV_no (k := 0) (n := 0) (s := s) (by simp [hs0])]
            rw [decide_eq_false hs0] at he
            go_enter Tryd.func11, Tryd.ntmps11
            go_wp2
            go_ret
            exact ⟨rfl, hb.out _⟩
        · rw [rightV_no (k := 0) (n := n) (s := s) (by simp [hn])]
          have hn1 : (n == 0) = false := by simpa using hn
          have hn2 : (n != 0) = true := by simpa using hn
          clear he
          go_enter Tryd.func11, Tryd.ntmps11
          go_wp2
          go_ret
          exact ⟨rfl, hb.out _⟩
      · clear hk0 hk0' hk2
        by_cases hs0 : s = []
        · subst hs0
          rw [right_num, show str8 [] = ⟨#[]⟩ from rfl]
          clear he
          go_enter Tryd.func11, Tryd.ntmps11
          go_wp2
          go_ret
          exact ⟨rfl, hb.out _⟩
        · rw [rightV_no (k := 1) (n := n) (s := s) (by simp [hs0])]
          rw [decide_eq_false hs0] at he
          go_enter Tryd.func11, Tryd.ntmps11
          go_wp2
          go_ret
          exact ⟨rfl, hb.out _⟩
      · clear hk0 hk0' hk2
        by_cases hn : n = 0
        · subst hn
          rw [right_text]
          clear he
          by_cases hl : 40 < s.length
          · have hl' : (40 : Int) < ((str8 s).size : Int) := by rw [str8_size]; omega
            rw [if_pos hl]
            go_enter Tryd.func11, Tryd.ntmps11
            go_wp2
            go_ret
            exact ⟨rfl, hb.out _⟩
          · have hl' : ¬ ((40 : Int) < ((str8 s).size : Int)) := by rw [str8_size]; omega
            rw [if_neg hl]
            go_enter Tryd.func11, Tryd.ntmps11
            go_wp2
            go_ret
            exact ⟨rfl, hb.out _⟩
        · rw [rightV_no (k := 2) (n := n) (s := s) (by simp [hn])]
          have hn1 : (n == 0) = false := by simpa using hn
          have hn2 : (n != 0) = true := by simpa using hn
          clear he
          go_enter Tryd.func11, Tryd.ntmps11
          go_wp2
          go_ret
          exact ⟨rfl, hb.out _⟩

set_option maxHeartbeats 1000000 in
theorem dcompare_any (k n k' n' : Int) (s s' : List UInt8) (w : World) :
    Calls Tryd.prog 13 #[.agg #[.int .i64 k, .int .i64 n, .string (str8 s)], .agg #[.int .i64 k', .int .i64 n', .string (str8 s')]] w fun e w' => e = .returned (.int .i64 (cmpV ⟨k, n, s⟩ ⟨k', n', s'⟩)) ∧ Below w.heap.size w w' := by
  have hne : ∀ w, _ := fun w => run_eqv ⟨k, n, s⟩ ⟨k', n', s'⟩ w
  dsimp only at hne
  have hg := Tryd.eqGuardVal
  have hb : Hid (∀ (o o' : Obj), Below w.heap.size w ((w.alloc o).alloc o')) := hid fun o o' => ((Below.refl _ _).alloc (Nat.le_refl _) _).alloc (by simp) _
  have hsp := cmpV_spec ⟨k, n, s⟩ ⟨k', n', s'⟩
  have hz := cmpV_zero ⟨k, n, s⟩ ⟨k', n', s'⟩
  have hls : Op.bytesLess (str8 s).toList (str8 s').toList = Op.bytesLess s s' := by rw [str8_toList, str8_toList]
  by_cases hq : eqv ⟨k, n, s⟩ ⟨k', n', s'⟩ = true
  · have hd : cmpV ⟨k, n, s⟩ ⟨k', n', s'⟩ = 0 := by rw [cmpV, if_pos hq]
    rw [hd]
    rw [hq] at hne
    clear hd hq hz hsp hls
    go_enter Tryd.func13, Tryd.ntmps13
    go_wp2
    go_ret
    exact ⟨rfl, hb.out _ _⟩
  · have hq' : eqv ⟨k, n, s⟩ ⟨k', n', s'⟩ = false := by simpa using hq
    rw [hq'] at hne
    rcases hsp with ⟨hc, hlv⟩ | ⟨hc, heq⟩ | ⟨hc, hlv⟩
    · rw [hc]
      clear hc hq hq' hz
      unfold lv at hlv
      dsimp only at hlv
      rcases hlv with h | ⟨h, h2 | ⟨h2, h3⟩⟩
      · have h' : decide (k < k') = true := decide_eq_true h
        clear hls
        go_enter Tryd.func13, Tryd.ntmps13
        go_wp2
        go_ret
        exact ⟨rfl, hb.out _ _⟩
      · subst h
        have h' : decide (n < n') = true := decide_eq_true h2
        clear hls
        go_enter Tryd.func13, Tryd.ntmps13
        go_wp2
        go_ret
        exact ⟨rfl, hb.out _ _⟩
      · subst h h2
        rw [h3] at hls
        clear h3
        go_enter Tryd.func13, Tryd.ntmps13
        go_wp2
        go_ret
        exact ⟨rfl, hb.out _ _⟩
    · exact absurd (eqv_iff.2 heq) hq
    · rw [hc]
      clear hc hq hq' hz
      unfold lv at hlv
      dsimp only at hlv
      rcases hlv with h | ⟨h, h2 | ⟨h2, h3⟩⟩
      · have h' : decide (k < k') = false := decide_eq_false (by omega)
        have h2 : (k == k') = false := by rw [beq_eq_false_iff_ne]; omega
        clear hls
        go_enter Tryd.func13, Tryd.ntmps13
        go_wp2
        go_ret
        exact ⟨rfl, hb.out _ _⟩
      · subst h
        have h' : decide (n < n') = false := decide_eq_false (by omega)
        have h2' : (n == n') = false := by rw [beq_eq_false_iff_ne]; omega
        clear hls
        go_enter Tryd.func13, Tryd.ntmps13
        go_wp2
        go_ret
        exact ⟨rfl, hb.out _ _⟩
      · subst h h2
        have h4 : Op.bytesLess s s' = false := by
          by_cases h : Op.bytesLess s s' = true
          · have := less_trans _ _ _ h h3
            rw [less_self] at this
            cases this
          · simpa using h
        rw [h4] at hls
        clear h3 h4
        go_enter Tryd.func13, Tryd.ntmps13
        go_wp2
        go_ret
        exact ⟨rfl, hb.out _ _⟩
end Go.Proofs.YtlcoeoilakobjaaDoor
