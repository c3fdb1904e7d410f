/-
  NARROWER THAN 'FOR EVERY INPUT', by the rows' own cells (each row's printed sentence says how): PlanSpans: loops, laid · PlanMeets: laid · PlanBoth: laid · PlanPoints: laid.
  DERIVED. THE GIVEN ROWS OF THIS SEAT. 4 by the template 'for every input the law returns true; each argument reads behind the call as it read before'; 0 by the template 'total and deterministic' (their statements: YthjgbcbgkafgjaaDoorTotals.lean).
  GIVEN WITH THE SEED: the statements are not yours to turn. If you find one false, say at which input.
  Laid BY PROGRAM, IN A SANDBOX (cutbox-rows.mjs): the forced cells as the released guide's own fill.sh prints them over the translation 34032f8a2880f0fc… (all of the seat's roots in one cut). By AI agents, Wed Nov 11 2026. No macro, syntax, notation, axiom, sorry.
-/
import Derived.Test.YthjgbcbgkafgjaaDoorChecked
import GoSem.Claim
import GoSem.ClaimJoined
import GoSem.ClaimMapViews
import Derived.JoinedTies
import Derived.KernelRfl
namespace Go.Proofs.YthjgbcbgkafgjaaDoor
/- THE CELL 'sum', in the pinned program and in every row, IS THE sha256 OF THE DUMP (.gsa) THAT YthjgbcbgkafgjaaDoorProg.lean LOADS. Nothing in Lean hashes anything: it is a label: what it is worth is what the hold of that sum in a sandbox is worth. -/
noncomputable def Tryd.pinned : Pinned := { name := "ythjgbcbgkafgjaadoor", sum := "34032f8a2880f0fc1a8342ad29cab84944be18b6b953abda6cb0ec8eb2e6a583", checked := Tryd.checked }
namespace Rows
def none {H : Type} : Left H := { results := [], args := [] }

/- WHAT THE LISTED PACKAGE-LEVEL VARIABLES READ AS WHEN THE CALL BEGINS. Each datum BY PROGRAM (the guide's laid-datum.mjs) off the statement by which the dump's own 'gosem.cut.vars' lays the variable. In a bare row this is a premise. The card (YthjgbcbgkafgjaaDoorCards.lean) ties it to the program's text. -/
def laid_vestry_plan_tests {H : Type} : DataW H := .agg [.agg [.lit (.int .i64 0), .lit (.int .i64 0), .lit (.int .i64 0)], .agg [.lit (.int .i64 0), .lit (.int .i64 0), .lit (.int .i64 0)], .agg [.lit (.int .i64 0), .lit (.int .i64 0), .lit (.int .i64 0)], .agg [.lit (.int .i64 1), .lit (.int .i64 2), .lit (.int .i64 3)], .agg [.lit (.int .i64 0), .lit (.int .i64 0), .lit (.int .i64 0)], .agg [.lit (.int .i64 0), .lit (.int .i64 1), .lit (.int .i64 7)], .agg [.lit (.int .i64 0), .lit (.int .i64 2), .lit (.int .i64 8)], .agg [.lit (.int .i64 2), .lit (.int .i64 0), .lit (.int .i64 5)], .agg [.lit (.int .i64 1), .lit (.int .i64 0), .lit (.int .i64 6)]]

/-- 'vestrylaw15.PlanSpans': WHATEVER THE INPUT: true; the input reads as it did. -/
def planSpansSpec : ChangeSpec := { name := "planSpans", fn := fun _ => fun
  | [d1, d2] => { results := [.lit (.bool true)], args := [d1, d2] }
  | _ => none }
def planSpansRow : OpenClaim := { program := "ythjgbcbgkafgjaadoor", sum := "34032f8a2880f0fc1a8342ad29cab84944be18b6b953abda6cb0ec8eb2e6a583", func := "vestry/vestrylaw15.PlanSpans", spec := "planSpans", inPlace := ["internal/bytealg.Compare"], recurses := true, named := ["vestry/plan.tests"], loops := true, apart := false, laid := [("vestry/plan.tests", laid_vestry_plan_tests)] }
def PlanSpansSaid : Prop := planSpansRow.holds Tryd.pinned (OpenSpec.ofChange planSpansSpec)

/-- ITS FALSE NEIGHBOUR: 'it returns false'. Refute it at one input. -/
def planSpansWrong : ChangeSpec := { name := "planSpans", fn := fun _ => fun
  | [d1, d2] => { results := [.lit (.bool false)], args := [d1, d2] }
  | _ => none }
def PlanSpansWrongFalsely : Prop := planSpansRow.holds Tryd.pinned (OpenSpec.ofChange planSpansWrong)

/-- 'vestrylaw15.PlanMeets': WHATEVER THE INPUT: true; the input reads as it did. -/
def planMeetsSpec : ChangeSpec := { name := "planMeets", fn := fun _ => fun
  | [d1, d2] => { results := [.lit (.bool true)], args := [d1, d2] }
  | _ => none }
def planMeetsRow : OpenClaim := { program := "ythjgbcbgkafgjaadoor", sum := "34032f8a2880f0fc1a8342ad29cab84944be18b6b953abda6cb0ec8eb2e6a583", func := "vestry/vestrylaw15.PlanMeets", spec := "planMeets", inPlace := ["internal/bytealg.Compare"], recurses := true, named := ["vestry/plan.tests"], apart := false, laid := [("vestry/plan.tests", laid_vestry_plan_tests)] }
def PlanMeetsSaid : Prop := planMeetsRow.holds Tryd.pinned (OpenSpec.ofChange planMeetsSpec)

/-- ITS FALSE NEIGHBOUR: 'it returns false'. Refute it at one input. -/
def planMeetsWrong : ChangeSpec := { name := "planMeets", fn := fun _ => fun
  | [d1, d2] => { results := [.lit (.bool false)], args := [d1, d2] }
  | _ => none }
def PlanMeetsWrongFalsely : Prop := planMeetsRow.holds Tryd.pinned (OpenSpec.ofChange planMeetsWrong)

/-- 'vestrylaw15.PlanBoth': WHATEVER THE INPUT: true; the input reads as it did. -/
def planBothSpec : ChangeSpec := { name := "planBoth", fn := fun _ => fun
  | [d1, d2, d3] => { results := [.lit (.bool true)], args := [d1, d2, d3] }
  | _ => none }
def planBothRow : OpenClaim := { program := "ythjgbcbgkafgjaadoor", sum := "34032f8a2880f0fc1a8342ad29cab84944be18b6b953abda6cb0ec8eb2e6a583", func := "vestry/vestrylaw15.PlanBoth", spec := "planBoth", inPlace := ["internal/bytealg.Compare"], recurses := true, named := ["vestry/plan.tests"], apart := false, laid := [("vestry/plan.tests", laid_vestry_plan_tests)] }
def PlanBothSaid : Prop := planBothRow.holds Tryd.pinned (OpenSpec.ofChange planBothSpec)

/-- ITS FALSE NEIGHBOUR: 'it returns false'. Refute it at one input. -/
def planBothWrong : ChangeSpec := { name := "planBoth", fn := fun _ => fun
  | [d1, d2, d3] => { results := [.lit (.bool false)], args := [d1, d2, d3] }
  | _ => none }
def PlanBothWrongFalsely : Prop := planBothRow.holds Tryd.pinned (OpenSpec.ofChange planBothWrong)

/-- 'vestrylaw15.PlanPoints': WHATEVER THE INPUT: true; the input reads as it did. -/
def planPointsSpec : ChangeSpec := { name := "planPoints", fn := fun _ => fun
  | [d1, d2, d3] => { results := [.lit (.bool true)], args := [d1, d2, d3] }
  | _ => none }
def planPointsRow : OpenClaim := { program := "ythjgbcbgkafgjaadoor", sum := "34032f8a2880f0fc1a8342ad29cab84944be18b6b953abda6cb0ec8eb2e6a583", func := "vestry/vestrylaw15.PlanPoints", spec := "planPoints", inPlace := ["internal/bytealg.Compare"], recurses := true, named := ["vestry/plan.tests"], apart := false, laid := [("vestry/plan.tests", laid_vestry_plan_tests)] }
def PlanPointsSaid : Prop := planPointsRow.holds Tryd.pinned (OpenSpec.ofChange planPointsSpec)

/-- ITS FALSE NEIGHBOUR: 'it returns false'. Refute it at one input. -/
def planPointsWrong : ChangeSpec := { name := "planPoints", fn := fun _ => fun
  | [d1, d2, d3] => { results := [.lit (.bool false)], args := [d1, d2, d3] }
  | _ => none }
def PlanPointsWrongFalsely : Prop := planPointsRow.holds Tryd.pinned (OpenSpec.ofChange planPointsWrong)

/- THE SECOND FORM. 'bulk': how many values and letters a reading holds, each counted each time it is reached (what is shared counts as often as it is met; a slice's spare places count too). A statement '..UptoSaid' is the law's where the arguments, and the package variables that the reading takes, are together of bulk at most 1048576: NARROWER than '..Said'. Prove '..Said' where nothing that the law and all that it calls make is longer than what came in: it says more and counts as full. Else prove '..UptoSaid'. A law counts once. -/
mutual
def uptoBulk {H : Type} : DataW H → Nat
  | .lit (.string bytes) => bytes.length + 1
  | .lit _ => 1
  | .nil => 1
  | .ptr d => uptoBulk d + 1
  | .slice elems spare => uptoBulkAll elems + uptoBulkAll spare + 1
  | .agg parts => uptoBulkAll parts + 1
  | .iface _ d => uptoBulk d + 1
  | .map entries => uptoBulkEntries entries + 1
  | .held _ => 1
def uptoBulkAll {H : Type} : List (DataW H) → Nat
  | [] => 0
  | d :: r => uptoBulk d + uptoBulkAll r
def uptoBulkEntries {H : Type} : List (Lit × DataW H) → Nat
  | [] => 0
  | x :: r => uptoBulkEntry x + uptoBulkEntries r
def uptoBulkEntry {H : Type} : Lit × DataW H → Nat
  | (.string bytes, d) => bytes.length + uptoBulk d + 1
  | (_, d) => uptoBulk d + 1
 end
def uptoSmall : (H : Type) → List (DataW H) → Bool := fun _ ds => decide (uptoBulkAll ds ≤ 1048576)
def OpenSpec.upto (s : _root_.Go.ChangeSpec) : _root_.Go.OpenSpec := { _root_.Go.OpenSpec.ofChange s with cond := some uptoSmall }

/-- 'vestrylaw15.PlanSpans', WHERE WHAT IT READS IS OF BULK AT MOST 1048576: true; the input reads as it did. -/
def planSpansUptoRow : OpenClaim := { program := "ythjgbcbgkafgjaadoor", sum := "34032f8a2880f0fc1a8342ad29cab84944be18b6b953abda6cb0ec8eb2e6a583", func := "vestry/vestrylaw15.PlanSpans", spec := "planSpans", inPlace := ["internal/bytealg.Compare"], recurses := true, named := ["vestry/plan.tests"], loops := true, apart := false, laid := [("vestry/plan.tests", laid_vestry_plan_tests)], narrowed := true }
def PlanSpansUptoSaid : Prop := planSpansUptoRow.holds Tryd.pinned (OpenSpec.upto planSpansSpec)

/-- 'vestrylaw15.PlanMeets', WHERE WHAT IT READS IS OF BULK AT MOST 1048576: true; the input reads as it did. -/
def planMeetsUptoRow : OpenClaim := { program := "ythjgbcbgkafgjaadoor", sum := "34032f8a2880f0fc1a8342ad29cab84944be18b6b953abda6cb0ec8eb2e6a583", func := "vestry/vestrylaw15.PlanMeets", spec := "planMeets", inPlace := ["internal/bytealg.Compare"], recurses := true, named := ["vestry/plan.tests"], apart := false, laid := [("vestry/plan.tests", laid_vestry_plan_tests)], narrowed := true }
def PlanMeetsUptoSaid : Prop := planMeetsUptoRow.holds Tryd.pinned (OpenSpec.upto planMeetsSpec)

/-- 'vestrylaw15.PlanBoth', WHERE WHAT IT READS IS OF BULK AT MOST 1048576: true; the input reads as it did. -/
def planBothUptoRow : OpenClaim := { program := "ythjgbcbgkafgjaadoor", sum := "34032f8a2880f0fc1a8342ad29cab84944be18b6b953abda6cb0ec8eb2e6a583", func := "vestry/vestrylaw15.PlanBoth", spec := "planBoth", inPlace := ["internal/bytealg.Compare"], recurses := true, named := ["vestry/plan.tests"], apart := false, laid := [("vestry/plan.tests", laid_vestry_plan_tests)], narrowed := true }
def PlanBothUptoSaid : Prop := planBothUptoRow.holds Tryd.pinned (OpenSpec.upto planBothSpec)

/-- 'vestrylaw15.PlanPoints', WHERE WHAT IT READS IS OF BULK AT MOST 1048576: true; the input reads as it did. -/
def planPointsUptoRow : OpenClaim := { program := "ythjgbcbgkafgjaadoor", sum := "34032f8a2880f0fc1a8342ad29cab84944be18b6b953abda6cb0ec8eb2e6a583", func := "vestry/vestrylaw15.PlanPoints", spec := "planPoints", inPlace := ["internal/bytealg.Compare"], recurses := true, named := ["vestry/plan.tests"], apart := false, laid := [("vestry/plan.tests", laid_vestry_plan_tests)], narrowed := true }
def PlanPointsUptoSaid : Prop := planPointsUptoRow.holds Tryd.pinned (OpenSpec.upto planPointsSpec)

end Rows
end Go.Proofs.YthjgbcbgkafgjaaDoor
