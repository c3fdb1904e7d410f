/- Contracts of the document's own is, literal, test (stage 15). -/
import Derived.Test.YthjgbcbgkafgjaaDoorPlDocB
namespace Go.Proofs.YthjgbcbgkafgjaaDoor
open Go.RowKit Go.Shelf
set_option linter.unusedVariables false
set_option linter.unusedSimpArgs false
set_option maxRecDepth 20000

set_option maxHeartbeats 2000000 in
theorem yis_any (k op : Int) (tb nm : List UInt8) (vk vn : Int) (vs : List UInt8) (xs : List Ex) (aa : Option Addr) (nn cc : Nat) (col : Int) (w : World) :
    Calls Tryd.prog 27 #[.agg #[.int .i64 k, .int .i64 op, .string (str8 tb), .string (str8 nm), .int .i64 vk, .int .i64 vn, .string (str8 vs), .slice aa nn cc], .int .i64 col] w fun e w' => e = .returned (.bool (isCol (.mk k op tb nm ⟨vk, vn, vs⟩ xs) col)) ∧ Below w.heap.size w w' := by
  obtain ⟨W, hW, hbW, hzW, hcW⟩ := box8 w (.cells #[.int .i64 k, .int .i64 op, .string (str8 tb), .string (str8 nm), .int .i64 vk, .int .i64 vn, .string (str8 vs), .slice aa nn cc] 26)
  have hbX := hbW.trans ((new_alloc W (.cells #[.int .i64 1, .int .i64 col, .string ⟨#[]⟩] 23)).mono hbW.size)
  have hcX : (W.alloc (.cells #[.int .i64 1, .int .i64 col, .string ⟨#[]⟩] 23)).heap[w.heap.size]? = some (.cells #[.int .i64 k, .int .i64 op, .string (str8 tb), .string (str8 nm), .int .i64 vk, .int .i64 vn, .string (str8 vs), .slice aa nn cc] 26 (0, 0)) := (Below.heap_alloc _ _ _ hzW).trans hcW
  have c0 := (cells8 hcX).1
  have c4 := (cells8 hcX).2.2.2.2.1
  have c5 := (cells8 hcX).2.2.2.2.2.1
  have c6 := (cells8 hcX).2.2.2.2.2.2.1
  have heq : ∀ W, (binOp .eql 23 (.agg #[.int .i64 vk, .int .i64 vn, .string (str8 vs)]) (.agg #[.int .i64 1, .int .i64 col, .string ⟨#[]⟩])).run Tryd.prog W = .ok (.bool (eqv ⟨vk, vn, vs⟩ ⟨1, col, []⟩)) W := fun W => run_eqv ⟨vk, vn, vs⟩ ⟨1, col, []⟩ W
  have hg := Tryd.eqGuardVal
  have HB := hid hbX
  have hX : isCol (.mk k op tb nm ⟨vk, vn, vs⟩ xs) col = (decide (k = 2) && eqv ⟨vk, vn, vs⟩ ⟨1, col, []⟩) := rfl
  rw [hX]
  clear hbW hbX hcX hcW hX
  generalize eqv ⟨vk, vn, vs⟩ ⟨1, col, []⟩ = r at *
  by_cases h2 : k = 2
  · subst h2
    go_enter Tryd.func27, Tryd.ntmps27
    go_wp2
    go_ret
    exact ⟨by simp, HB.out⟩
  · have hd : decide (k = 2) = false := decide_eq_false h2
    rw [hd]
    go_enter Tryd.func27, Tryd.ntmps27
    go_wp2
    go_ret
    exact ⟨rfl, HB.out⟩

set_option maxHeartbeats 2000000 in
theorem yliteral_any (k op : Int) (tb nm : List UInt8) (vk vn : Int) (vs : List UInt8) (xs : List Ex) (aa : Option Addr) (nn cc : Nat) (w : World) (hs : vs.length ≤ 9223372036854775807) :
    Calls Tryd.prog 28 #[.agg #[.int .i64 k, .int .i64 op, .string (str8 tb), .string (str8 nm), .int .i64 vk, .int .i64 vn, .string (str8 vs), .slice aa nn cc]] w fun e w' => e = .returned (.bool (isVal (.mk k op tb nm ⟨vk, vn, vs⟩ xs))) ∧ Below w.heap.size w w' := by
  obtain ⟨W, hW, hbW, hzW, hcW⟩ := box8 w (.cells #[.int .i64 k, .int .i64 op, .string (str8 tb), .string (str8 nm), .int .i64 vk, .int .i64 vn, .string (str8 vs), .slice aa nn cc] 26)
  have c0 := (cells8 hcW).1
  have c4 := (cells8 hcW).2.2.2.2.1
  have c5 := (cells8 hcW).2.2.2.2.2.1
  have c6 := (cells8 hcW).2.2.2.2.2.2.1
  have HR := dright_any vk vn vs W hs
  have hX : isVal (.mk k op tb nm ⟨vk, vn, vs⟩ xs) = (decide (k = 1) && decide (rightV ⟨vk, vn, vs⟩ = 0)) := rfl
  rw [hX]
  generalize rightV ⟨vk, vn, vs⟩ = r at *
  have HB := hid hbW
  clear hbW hcW hX
  by_cases h2 : k = 1
  · subst h2
    by_cases hr : r = 0
    · subst hr
      go_enter Tryd.func28, Tryd.ntmps28
      go_wp2_with (go_at_call 38; refine HR.mono ?_; clear HR; rintro e w1 ⟨rfl, hb1⟩)
      go_ret
      exact ⟨by simp, HB.out.trans (hb1.mono HB.out.size)⟩
    · have hri : ¬ ((r : Int) = 0) := by omega
      have hrd : decide (r = 0) = false := decide_eq_false hr
      have hrd2 : decide ((r : Int) = 0) = false := decide_eq_false hri
      rw [hrd]
      clear hrd
      go_enter Tryd.func28, Tryd.ntmps28
      go_wp2_with (go_at_call 38; refine HR.mono ?_; clear HR; rintro e w1 ⟨rfl, hb1⟩)
      go_ret
      exact ⟨by simp [hr], HB.out.trans (hb1.mono HB.out.size)⟩
  · have hd : decide (k = 1) = false := decide_eq_false h2
    rw [hd]
    clear HR
    go_enter Tryd.func28, Tryd.ntmps28
    go_wp2_with fail
    all_goals first | (refine ⟨trivial, ?_⟩; go_wp2; go_ret; exact ⟨rfl, HB.out⟩) | (go_ret; exact ⟨rfl, HB.out⟩)
end Go.Proofs.YthjgbcbgkafgjaaDoor
