/- Two digests that are alike are told to be. -/
import Derived.Test.YtmafaioohiaenaaDoorOfD
namespace Go.Proofs.YtmafaioohiaenaaDoor
open Go.RowKit
set_option linter.unusedVariables false
set_option maxRecDepth 20000

theorem sum_same_at (d : Nat) (bs : List UInt8) (hl : bs.length = 32) (w : World) (hd : ∀ a : Int, (Op.equalIn d 5 (.int .u8 a) (.int .u8 a)).run Tryd.prog w = .ok true w) :
    (Op.equalIn (d + 1) 23 (.agg (bs.map by8).toArray) (.agg (bs.map by8).toArray)).run Tryd.prog w = .ok true w := by
  have hz : (sizeOf 5).run Tryd.prog w = .ok 1 w := by simp [go_sem]
  simp only [Op.equalIn, Sem.run_bind, run_underlying Tryd.underlying23, Result.andThen_ok, hz]
  have hp : ∀ i, i < 32 → (Go.part 5 (bs.map by8).toArray (i * 1)).run Tryd.prog w = .ok (.int .u8 ((bs[i]?.getD 0).toNat : Int)) w := fun i hi => by
    have h1 : (bs.map by8).toArray[i * 1]? = some (.int .u8 ((bs[i]?.getD 0).toNat : Int)) := by simp [hl, hi, by8]
    simp only [Nat.mul_one] at h1 ⊢
    simp [Go.part, h1, go_sem]
  rw [Std.Legacy.Range.forIn_eq_forIn_range']
  have hall : ∀ i ∈ List.range' 0 32 1, i < 32 := by decide
  show ((Sem.run Tryd.prog (forIn (List.range' 0 32 1) _ _) w).andThen _) = _
  generalize List.range' 0 32 1 = l at *
  induction l with
  | nil => simp
  | cons i l ih =>
    simp only [List.forIn_cons, Sem.run_bind, hp i (hall i (by simp)), Result.andThen_ok, hd, Bool.not_true, Bool.false_eq_true, if_false, Sem.run_pure]
    exact ih (fun j hj => hall j (by simp [hj]))

/-- '==' of a digest with itself. -/
theorem eql_sum (bs : List UInt8) (hl : bs.length = 32) (w : World) : (binOp .eql 23 (.agg (bs.map by8).toArray) (.agg (bs.map by8).toArray)).run Tryd.prog w = .ok (.bool true) w := by
  rw [run_eql_struct, show (10000 : Nat) = 9999 + 1 from rfl, sum_same_at 9999 bs hl w (fun a => by rw [show (9999 : Nat) = 9998 + 1 from rfl, run_equalIn_int w 9998 5 .u8 .u8 a a Tryd.underlying5]; simp)]
  rfl

/-- A whole array is loaded, the load guarded or not. -/
theorem wpList_load_want {P : Program} {ops : Array Oper} {rest : List Oper} {o : Oper} {a : Act} {w : World} {Q : Exit → Act → World → Prop} (hw : Region.wanted o (yielded ops a.tmps) = true) (ty : TypeId) (x : Operand) (ho : o.op = .load ty x)
    (g : Nat) (hx : a.eval x = .pointer (some ⟨g, 0, none⟩)) (t : TypeId) (cs : Array Value) (fr : Nat × Nat) (n : Nat) (e : TypeId) (hg : w.heap[g]? = some (.cells cs t fr))
    (hu : P.underlying ty = some (.array n e)) (hi : (P.info? ty).map (·.size) = some cs.size)
    (h : wpList P ops Q rest (a.put o.dst (.agg cs)) w) : wpList P ops Q (o :: rest) a w := by
  unfold wpList
  rw [if_pos hw]
  exact Or.inl (wp_load_row ty x ho g hx t cs fr (.array n e) hg hu rfl hi h)
end Go.Proofs.YtmafaioohiaenaaDoor
