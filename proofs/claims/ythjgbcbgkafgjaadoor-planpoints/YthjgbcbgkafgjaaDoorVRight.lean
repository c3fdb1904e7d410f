/- Contracts of value.Right and value.Compare. -/
import Derived.Test.YthjgbcbgkafgjaaDoorVTell
namespace Go.Proofs.YthjgbcbgkafgjaaDoor
open Go.RowKit
set_option linter.unusedVariables false
set_option linter.unusedSimpArgs false
set_option maxRecDepth 20000

theorem cell_row (w : World) (g : Nat) (cs : Array Value) (t : TypeId) (fr : Nat × Nat) (i : Nat) (h : w.heap[g]? = some (.cells cs t fr)) : w.cell? ⟨g, i, none⟩ = cs[i]? := by
  simp [World.cell?, h]

/-- A value's box: a block of three cells, behind whatever is made later. -/
theorem box3 (w : World) (a b c : Value) (t : TypeId) : ∃ W, w.alloc (.cells #[a, b, c] t) = W ∧ Below w.heap.size w W ∧ w.heap.size < W.heap.size ∧
    ∀ W', Below W.heap.size W W' → W'.cell? ⟨w.heap.size, 0, none⟩ = some a ∧ W'.cell? ⟨w.heap.size, 1, none⟩ = some b ∧ W'.cell? ⟨w.heap.size, 2, none⟩ = some c := by
  refine ⟨_, rfl, (Below.refl _ _).alloc (Nat.le_refl _) _, by simp, fun W' h => ?_⟩
  have hn : W'.heap[w.heap.size]? = some (.cells #[a, b, c] t) := (h.block _ (by simp)).trans (heap_alloc_new w _)
  exact ⟨by rw [cell_row _ _ _ _ _ _ hn]; rfl, by rw [cell_row _ _ _ _ _ _ hn]; rfl, by rw [cell_row _ _ _ _ _ _ hn]; rfl⟩

theorem Tryd.eqGuardVal : Tryd.prog.eqGuardType Tryd.prog.depth 23 = false := by kernel_rfl

set_option maxHeartbeats 1000000 in
theorem right_any (k n : Int) (s : List UInt8) (w : World) (hs : s.length ≤ 9223372036854775807) :
    Calls Tryd.prog 20 #[.agg #[.int .i64 k, .int .i64 n, .string (str8 s)]] w fun e w' => e = .returned (.int .i64 (rightV ⟨k, n, s⟩)) ∧ Below w.heap.size w w' := by
  obtain ⟨k', n', s', hnm⟩ : ∃ k' n' s', namedV ⟨k, n, s⟩ = ⟨k', n', s'⟩ := ⟨_, _, _, rfl⟩
  have hr : rightV ⟨k, n, s⟩ = if eqv ⟨k, n, s⟩ ⟨k', n', s'⟩ = false then 4 else if 40 < s.length then 2 else 0 := by rw [rightV, hnm]
  have hN := fun w => named_any k n s w
  rw [hnm] at hN
  have hne : ∀ w, _ := fun w => run_nev ⟨k, n, s⟩ ⟨k', n', s'⟩ w
  dsimp only at hN hne
  obtain ⟨R, hR⟩ : ∃ R, rightV ⟨k, n, s⟩ = R := ⟨_, rfl⟩
  rw [hR] at hr ⊢
  have HR := hid hr
  clear hR
  obtain ⟨W, hW, hbW, hzW, hcW⟩ := box3 w (.int .i64 k) (.int .i64 n) (.string (str8 s)) 23
  have hS0 := hcW W.drew (below_drewN (Below.refl _ _) 1)
  have c0 := hcW W (Below.refl _ _)
  have HC := hid hcW
  have hg := Tryd.eqGuardVal
  have HB := hid hbW
  have HN := hid (hN W.drew)
  clear hnm hr hcW hbW hN
  go_enter Tryd.func20, Tryd.ntmps20
  go_wp2_with fail

  go_region_held3 (fun w' => w'.cell? ⟨w.heap.size, 0, none⟩ = some (.int .i64 k) ∧ w'.cell? ⟨w.heap.size, 1, none⟩ = some (.int .i64 n) ∧ w'.cell? ⟨w.heap.size, 2, none⟩ = some (.string (str8 s)))
    (first | assumption)
    ((go_at_call 33; refine HN.out.mono ?_; clear HN; rintro e w6 ⟨rfl, hb6⟩
      have d6 : Below W.heap.size W w6 := (below_drewN (Below.refl _ _) 1).trans hb6
      have hS6 := HC.out _ d6
      clear hb6))
  by_cases hq : eqv ⟨k, n, s⟩ ⟨k', n', s'⟩ = true
  · rw [hq]
    have HQ := hid hq
    clear hq hne
    by_cases hl : 40 < s.length
    · have hlz : (40 : Int) < ((str8 s).size : Int) := by rw [str8_size]; omega
      go_wp2
      go_ret
      exact ⟨by rw [HR.out, if_neg (by rw [HQ.out]; simp), if_pos hl]; rfl, HB.out.trans (d6.mono HB.out.size)⟩
    · have hlz : ¬ ((40 : Int) < ((str8 s).size : Int)) := by rw [str8_size]; omega
      go_wp2
      go_ret
      exact ⟨by rw [HR.out, if_neg (by rw [HQ.out]; simp), if_neg hl]; rfl, HB.out.trans (d6.mono HB.out.size)⟩
  · have hq' : eqv ⟨k, n, s⟩ ⟨k', n', s'⟩ = false := by simpa using hq
    rw [hq']
    have HQ := hid hq'
    clear hq hq' hne
    go_wp2
    go_ret
    exact ⟨by rw [HR.out, if_pos HQ.out]; rfl, HB.out.trans (d6.mono HB.out.size)⟩

/-- Compare's answer. -/
def cmpV (x y : Vl) : Int := if eqv x y = true then 0 else if x.k ≠ y.k then cmpI x.k y.k else if x.n ≠ y.n then cmpI x.n y.n else cmpS x.s y.s

set_option maxHeartbeats 1000000 in
theorem compare_any (k n k' n' : Int) (s s' : List UInt8) (w : World) :
    Calls Tryd.prog 23 #[.agg #[.int .i64 k, .int .i64 n, .string (str8 s)], .agg #[.int .i64 k', .int .i64 n', .string (str8 s')]] w fun e w' => e = .returned (.int .i64 (cmpV ⟨k, n, s⟩ ⟨k', n', s'⟩)) ∧ Below w.heap.size w w' := by
  have hne : ∀ w, _ := fun w => run_eqv ⟨k, n, s⟩ ⟨k', n', s'⟩ w
  dsimp only at hne
  have hg := Tryd.eqGuardVal
  have hb : ∀ (o o' : Obj), Below w.heap.size w ((w.alloc o).alloc o') := fun o o' => ((Below.refl _ _).alloc (Nat.le_refl _) _).alloc (by simp) _
  by_cases hq : eqv ⟨k, n, s⟩ ⟨k', n', s'⟩ = true
  · have hd : cmpV ⟨k, n, s⟩ ⟨k', n', s'⟩ = 0 := by rw [cmpV, if_pos hq]
    rw [hd]
    rw [hq] at hne
    clear hd hq
    go_enter Tryd.func23, Tryd.ntmps23
    go_wp2
    go_ret
    exact ⟨rfl, hb _ _⟩
  · have hq' : eqv ⟨k, n, s⟩ ⟨k', n', s'⟩ = false := by simpa using hq
    rw [hq'] at hne
    by_cases hk : k = k'
    · by_cases hn : n = n'
      · have hd : cmpV ⟨k, n, s⟩ ⟨k', n', s'⟩ = cmpS s s' := by rw [cmpV, if_neg hq, if_neg (by simpa using hk), if_neg (by simpa using hn)]
        rw [hd]
        clear hd hq hq'
        subst hk hn
        go_enter Tryd.func23, Tryd.ntmps23
        go_wp2_with (go_at_call 36; refine (cmpStr_any _ _ _).mono ?_; rintro e w' ⟨rfl, rfl⟩)
        go_ret
        exact ⟨rfl, hb _ _⟩
      · have hd : cmpV ⟨k, n, s⟩ ⟨k', n', s'⟩ = cmpI n n' := by rw [cmpV, if_neg hq, if_neg (by simpa using hk), if_pos hn]
        rw [hd]
        clear hd hq hq'
        subst hk
        have hnn : (n == n') = false := by simpa using hn
        go_enter Tryd.func23, Tryd.ntmps23
        go_wp2_with (go_at_call 35; refine (cmpInt_any _ _ _).mono ?_; rintro e w' ⟨rfl, rfl⟩)
        go_ret
        exact ⟨rfl, hb _ _⟩
    · have hd : cmpV ⟨k, n, s⟩ ⟨k', n', s'⟩ = cmpI k k' := by rw [cmpV, if_neg hq, if_pos hk]
      rw [hd]
      clear hd hq hq'
      have hkk : (k == k') = false := by simpa using hk
      go_enter Tryd.func23, Tryd.ntmps23
      go_wp2_with (go_at_call 35; refine (cmpInt_any _ _ _).mono ?_; rintro e w' ⟨rfl, rfl⟩)
      go_ret
      exact ⟨rfl, hb _ _⟩
end Go.Proofs.YthjgbcbgkafgjaaDoor
