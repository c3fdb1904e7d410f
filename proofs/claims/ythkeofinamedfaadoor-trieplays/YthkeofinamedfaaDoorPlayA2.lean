/- Two proofs that say the same are told to be the same. -/
import Derived.Test.YthkeofinamedfaaDoorPlayA
import Derived.Test.YthkeofinamedfaaDoorPathsP
import Derived.Test.YthkeofinamedfaaDoorEqD
namespace Go.Proofs.YthkeofinamedfaaDoor
open Go.RowKit Go.Shelf
set_option linter.unusedVariables false
set_option linter.unusedSimpArgs false
set_option maxRecDepth 20000

theorem eqf_step (e : Nat) (A : Array Value) (a b c : Value) (w : World) (h4 : (Go.part 3 A 0).run Tryd.prog w = .ok a w) (h5 : (Go.part 4 A 1).run Tryd.prog w = .ok b w) (h2 : (Go.part 37 A 2).run Tryd.prog w = .ok c w)
    (h6 : (Op.equalIn e 3 a a).run Tryd.prog w = .ok true w) (h7 : (Op.equalIn e 4 b b).run Tryd.prog w = .ok true w) (h3 : (Op.equalIn e 37 c c).run Tryd.prog w = .ok true w) :
    (Op.eqFields e A A (Tryd.prog.fieldsOf 62).toList).run Tryd.prog w = .ok true w := by
  simp only [Program.fieldsOf, Tryd.underlying62]
  simp [Op.eqFields, h2, h3, h4, h5, h6, h7]

theorem step_same_at (d : Nat) (s : Stp) (h : s.2.2.length = 32) (w : World) : (Op.equalIn (d + 1 + 1 + 1) 62 (.agg (stepC s).toArray) (.agg (stepC s).toArray)).run Tryd.prog w = .ok true w := by
  rw [run_equalIn_struct (P := Tryd.prog) w (d + 1 + 1) 62 _ _ Tryd.fieldsStep Tryd.stoodStep]
  have h2 : (Go.part 37 (stepC s).toArray 2).run Tryd.prog w = .ok (.agg (s.2.2.map by8).toArray) w := by
    have hz : (sizeOf 37).run Tryd.prog w = .ok 32 w := by simp [go_sem]
    simp [Go.part, go_sem, stepC, h]
    exact List.take_of_length_le (by simp [h])
  have h3 : (Op.equalIn (d + 1 + 1) 37 (.agg (s.2.2.map by8).toArray) (.agg (s.2.2.map by8).toArray)).run Tryd.prog w = .ok true w := sum_same_at (d + 1) s.2.2 h w (fun a => by rw [run_equalIn_int w d 5 .u8 .u8 a a Tryd.underlying5]; simp)
  have h4 : (Go.part 3 (stepC s).toArray 0).run Tryd.prog w = .ok (.int .i64 s.1) w := by simp [Go.part, go_sem, stepC]
  have h5 : (Go.part 4 (stepC s).toArray 1).run Tryd.prog w = .ok (.bool s.2.1) w := by simp [Go.part, go_sem, stepC]
  have h6 : (Op.equalIn (d + 1 + 1) 3 (.int .i64 s.1) (.int .i64 s.1)).run Tryd.prog w = .ok true w := by
    rw [run_equalIn_int (P := Tryd.prog) w (d + 1) 3 .i64 .i64 s.1 s.1 Tryd.underlying3]; simp
  have h7 : (Op.equalIn (d + 1 + 1) 4 (.bool s.2.1) (.bool s.2.1)).run Tryd.prog w = .ok true w := by
    rw [run_equalIn_bool' (P := Tryd.prog) w (d + 1) 4 s.2.1 s.2.1 Tryd.underlying4]; simp
  exact eqf_step _ _ _ _ _ w h4 h5 h2 h6 h7 h3

theorem step_same (s : Stp) (h : s.2.2.length = 32) (w : World) : (Op.equalIn 10000 62 (.agg (stepC s).toArray) (.agg (stepC s).toArray)).run Tryd.prog w = .ok true w := by
  rw [show (10000 : Nat) = 9997 + 1 + 1 + 1 from rfl]
  exact step_same_at 9997 s h w

end Go.Proofs.YthkeofinamedfaaDoor
