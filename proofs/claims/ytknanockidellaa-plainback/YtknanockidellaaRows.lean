/-
  No cell of these rows narrows 'for every input' (looked for: loops, veiled, ifaces, maps, wideKeys, modest, calm, conditions, laid).
  DERIVED. THE GIVEN ROWS OF THIS SEAT. 6 by the template 'for every input the law returns true; each argument reads behind the call as it read before'; 0 by the template 'total and deterministic' (their statements: YtknanockidellaaTotals.lean).
  GIVEN WITH THE SEED: the statements are not yours to turn. If you find one false, say at which input.
  Laid BY PROGRAM, IN A SANDBOX (cutbox-rows.mjs): the forced cells as the released guide's own fill.sh prints them over the translation 6118acb93113ab96… (all of the seat's roots in one cut). By AI agents, Wed Nov 11 2026. No macro, syntax, notation, axiom, sorry.
-/
import Derived.Test.YtknanockidellaaChecked
import GoSem.Claim
import GoSem.ClaimJoined
import GoSem.ClaimMapViews
import Derived.JoinedTies
import Derived.KernelRfl
namespace Go.Proofs.Ytknanockidellaa
/- THE CELL 'sum', in the pinned program and in every row, IS THE sha256 OF THE DUMP (.gsa) THAT YtknanockidellaaProg.lean LOADS. Nothing in Lean hashes anything: it is a label: what it is worth is what the hold of that sum in a sandbox is worth. -/
noncomputable def Try.pinned : Pinned := { name := "ytknanockidellaa", sum := "6118acb93113ab96a58af17c9dda63d571d1d2260231d975b49965f8eb96bcdb", checked := Try.checked }
namespace Rows
def none {H : Type} : Left H := { results := [], args := [] }

/-- 'vestrylaw01.PlainNumbers': WHATEVER THE INPUT: true; the input reads as it did. -/
def plainNumbersSpec : ChangeSpec := { name := "plainNumbers", fn := fun _ => fun
  | [d1, d2] => { results := [.lit (.bool true)], args := [d1, d2] }
  | _ => none }
def plainNumbersRow : OpenClaim := { program := "ytknanockidellaa", sum := "6118acb93113ab96a58af17c9dda63d571d1d2260231d975b49965f8eb96bcdb", func := "vestry/vestrylaw01.PlainNumbers", spec := "plainNumbers", apart := false }
def PlainNumbersSaid : Prop := plainNumbersRow.holds Try.pinned (OpenSpec.ofChange plainNumbersSpec)

/-- ITS FALSE NEIGHBOUR: 'it returns false'. Refute it at one input. -/
def plainNumbersWrong : ChangeSpec := { name := "plainNumbers", fn := fun _ => fun
  | [d1, d2] => { results := [.lit (.bool false)], args := [d1, d2] }
  | _ => none }
def PlainNumbersWrongFalsely : Prop := plainNumbersRow.holds Try.pinned (OpenSpec.ofChange plainNumbersWrong)

/-- 'vestrylaw01.PlainTexts': WHATEVER THE INPUT: true; the input reads as it did. -/
def plainTextsSpec : ChangeSpec := { name := "plainTexts", fn := fun _ => fun
  | [d1, d2] => { results := [.lit (.bool true)], args := [d1, d2] }
  | _ => none }
def plainTextsRow : OpenClaim := { program := "ytknanockidellaa", sum := "6118acb93113ab96a58af17c9dda63d571d1d2260231d975b49965f8eb96bcdb", func := "vestry/vestrylaw01.PlainTexts", spec := "plainTexts", apart := false }
def PlainTextsSaid : Prop := plainTextsRow.holds Try.pinned (OpenSpec.ofChange plainTextsSpec)

/-- ITS FALSE NEIGHBOUR: 'it returns false'. Refute it at one input. -/
def plainTextsWrong : ChangeSpec := { name := "plainTexts", fn := fun _ => fun
  | [d1, d2] => { results := [.lit (.bool false)], args := [d1, d2] }
  | _ => none }
def PlainTextsWrongFalsely : Prop := plainTextsRow.holds Try.pinned (OpenSpec.ofChange plainTextsWrong)

/-- 'vestrylaw01.PlainBlobs': WHATEVER THE INPUT: true; the input reads as it did. -/
def plainBlobsSpec : ChangeSpec := { name := "plainBlobs", fn := fun _ => fun
  | [d1, d2] => { results := [.lit (.bool true)], args := [d1, d2] }
  | _ => none }
def plainBlobsRow : OpenClaim := { program := "ytknanockidellaa", sum := "6118acb93113ab96a58af17c9dda63d571d1d2260231d975b49965f8eb96bcdb", func := "vestry/vestrylaw01.PlainBlobs", spec := "plainBlobs", apart := false }
def PlainBlobsSaid : Prop := plainBlobsRow.holds Try.pinned (OpenSpec.ofChange plainBlobsSpec)

/-- ITS FALSE NEIGHBOUR: 'it returns false'. Refute it at one input. -/
def plainBlobsWrong : ChangeSpec := { name := "plainBlobs", fn := fun _ => fun
  | [d1, d2] => { results := [.lit (.bool false)], args := [d1, d2] }
  | _ => none }
def PlainBlobsWrongFalsely : Prop := plainBlobsRow.holds Try.pinned (OpenSpec.ofChange plainBlobsWrong)

/-- 'vestrylaw01.PlainRows': WHATEVER THE INPUT: true; the input reads as it did. -/
def plainRowsSpec : ChangeSpec := { name := "plainRows", fn := fun _ => fun
  | [d1, d2] => { results := [.lit (.bool true)], args := [d1, d2] }
  | _ => none }
def plainRowsRow : OpenClaim := { program := "ytknanockidellaa", sum := "6118acb93113ab96a58af17c9dda63d571d1d2260231d975b49965f8eb96bcdb", func := "vestry/vestrylaw01.PlainRows", spec := "plainRows", apart := false }
def PlainRowsSaid : Prop := plainRowsRow.holds Try.pinned (OpenSpec.ofChange plainRowsSpec)

/-- ITS FALSE NEIGHBOUR: 'it returns false'. Refute it at one input. -/
def plainRowsWrong : ChangeSpec := { name := "plainRows", fn := fun _ => fun
  | [d1, d2] => { results := [.lit (.bool false)], args := [d1, d2] }
  | _ => none }
def PlainRowsWrongFalsely : Prop := plainRowsRow.holds Try.pinned (OpenSpec.ofChange plainRowsWrong)

/-- 'vestrylaw01.PlainBack': WHATEVER THE INPUT: true; the input reads as it did. -/
def plainBackSpec : ChangeSpec := { name := "plainBack", fn := fun _ => fun
  | [d1, d2, d3, d4] => { results := [.lit (.bool true)], args := [d1, d2, d3, d4] }
  | _ => none }
def plainBackRow : OpenClaim := { program := "ytknanockidellaa", sum := "6118acb93113ab96a58af17c9dda63d571d1d2260231d975b49965f8eb96bcdb", func := "vestry/vestrylaw01.PlainBack", spec := "plainBack", apart := false }
def PlainBackSaid : Prop := plainBackRow.holds Try.pinned (OpenSpec.ofChange plainBackSpec)

/-- ITS FALSE NEIGHBOUR: 'it returns false'. Refute it at one input. -/
def plainBackWrong : ChangeSpec := { name := "plainBack", fn := fun _ => fun
  | [d1, d2, d3, d4] => { results := [.lit (.bool false)], args := [d1, d2, d3, d4] }
  | _ => none }
def PlainBackWrongFalsely : Prop := plainBackRow.holds Try.pinned (OpenSpec.ofChange plainBackWrong)

/-- 'vestrylaw01.PlainOrders': WHATEVER THE INPUT: true; the input reads as it did. -/
def plainOrdersSpec : ChangeSpec := { name := "plainOrders", fn := fun _ => fun
  | [d1, d2, d3, d4, d5, d6] => { results := [.lit (.bool true)], args := [d1, d2, d3, d4, d5, d6] }
  | _ => none }
def plainOrdersRow : OpenClaim := { program := "ytknanockidellaa", sum := "6118acb93113ab96a58af17c9dda63d571d1d2260231d975b49965f8eb96bcdb", func := "vestry/vestrylaw01.PlainOrders", spec := "plainOrders", apart := false }
def PlainOrdersSaid : Prop := plainOrdersRow.holds Try.pinned (OpenSpec.ofChange plainOrdersSpec)

/-- ITS FALSE NEIGHBOUR: 'it returns false'. Refute it at one input. -/
def plainOrdersWrong : ChangeSpec := { name := "plainOrders", fn := fun _ => fun
  | [d1, d2, d3, d4, d5, d6] => { results := [.lit (.bool false)], args := [d1, d2, d3, d4, d5, d6] }
  | _ => none }
def PlainOrdersWrongFalsely : Prop := plainOrdersRow.holds Try.pinned (OpenSpec.ofChange plainOrdersWrong)

/- THE SECOND FORM. 'bulk': how many values and letters a reading holds, each counted each time it is reached (what is shared counts as often as it is met; a slice's spare places count too). A statement '..UptoSaid' is the law's where the arguments, and the package variables that the reading takes, are together of bulk at most 1048576: NARROWER than '..Said'. Prove '..Said' where nothing that the law and all that it calls make is longer than what came in: it says more and counts as full. Else prove '..UptoSaid'. A law counts once. -/
mutual
def uptoBulk {H : Type} : DataW H → Nat
  | .lit (.string bytes) => bytes.length + 1
  | .lit _ => 1
  | .nil => 1
  | .ptr d => uptoBulk d + 1
  | .slice elems spare => uptoBulkAll elems + uptoBulkAll spare + 1
  | .agg parts => uptoBulkAll parts + 1
  | .iface _ d => uptoBulk d + 1
  | .map entries => uptoBulkEntries entries + 1
  | .held _ => 1
def uptoBulkAll {H : Type} : List (DataW H) → Nat
  | [] => 0
  | d :: r => uptoBulk d + uptoBulkAll r
def uptoBulkEntries {H : Type} : List (Lit × DataW H) → Nat
  | [] => 0
  | x :: r => uptoBulkEntry x + uptoBulkEntries r
def uptoBulkEntry {H : Type} : Lit × DataW H → Nat
  | (.string bytes, d) => bytes.length + uptoBulk d + 1
  | (_, d) => uptoBulk d + 1
 end
def uptoSmall : (H : Type) → List (DataW H) → Bool := fun _ ds => decide (uptoBulkAll ds ≤ 1048576)
def OpenSpec.upto (s : _root_.Go.ChangeSpec) : _root_.Go.OpenSpec := { _root_.Go.OpenSpec.ofChange s with cond := some uptoSmall }

/-- 'vestrylaw01.PlainNumbers', WHERE WHAT IT READS IS OF BULK AT MOST 1048576: true; the input reads as it did. -/
def plainNumbersUptoRow : OpenClaim := { program := "ytknanockidellaa", sum := "6118acb93113ab96a58af17c9dda63d571d1d2260231d975b49965f8eb96bcdb", func := "vestry/vestrylaw01.PlainNumbers", spec := "plainNumbers", apart := false, narrowed := true }
def PlainNumbersUptoSaid : Prop := plainNumbersUptoRow.holds Try.pinned (OpenSpec.upto plainNumbersSpec)

/-- 'vestrylaw01.PlainTexts', WHERE WHAT IT READS IS OF BULK AT MOST 1048576: true; the input reads as it did. -/
def plainTextsUptoRow : OpenClaim := { program := "ytknanockidellaa", sum := "6118acb93113ab96a58af17c9dda63d571d1d2260231d975b49965f8eb96bcdb", func := "vestry/vestrylaw01.PlainTexts", spec := "plainTexts", apart := false, narrowed := true }
def PlainTextsUptoSaid : Prop := plainTextsUptoRow.holds Try.pinned (OpenSpec.upto plainTextsSpec)

/-- 'vestrylaw01.PlainBlobs', WHERE WHAT IT READS IS OF BULK AT MOST 1048576: true; the input reads as it did. -/
def plainBlobsUptoRow : OpenClaim := { program := "ytknanockidellaa", sum := "6118acb93113ab96a58af17c9dda63d571d1d2260231d975b49965f8eb96bcdb", func := "vestry/vestrylaw01.PlainBlobs", spec := "plainBlobs", apart := false, narrowed := true }
def PlainBlobsUptoSaid : Prop := plainBlobsUptoRow.holds Try.pinned (OpenSpec.upto plainBlobsSpec)

/-- 'vestrylaw01.PlainRows', WHERE WHAT IT READS IS OF BULK AT MOST 1048576: true; the input reads as it did. -/
def plainRowsUptoRow : OpenClaim := { program := "ytknanockidellaa", sum := "6118acb93113ab96a58af17c9dda63d571d1d2260231d975b49965f8eb96bcdb", func := "vestry/vestrylaw01.PlainRows", spec := "plainRows", apart := false, narrowed := true }
def PlainRowsUptoSaid : Prop := plainRowsUptoRow.holds Try.pinned (OpenSpec.upto plainRowsSpec)

/-- 'vestrylaw01.PlainBack', WHERE WHAT IT READS IS OF BULK AT MOST 1048576: true; the input reads as it did. -/
def plainBackUptoRow : OpenClaim := { program := "ytknanockidellaa", sum := "6118acb93113ab96a58af17c9dda63d571d1d2260231d975b49965f8eb96bcdb", func := "vestry/vestrylaw01.PlainBack", spec := "plainBack", apart := false, narrowed := true }
def PlainBackUptoSaid : Prop := plainBackUptoRow.holds Try.pinned (OpenSpec.upto plainBackSpec)

/-- 'vestrylaw01.PlainOrders', WHERE WHAT IT READS IS OF BULK AT MOST 1048576: true; the input reads as it did. -/
def plainOrdersUptoRow : OpenClaim := { program := "ytknanockidellaa", sum := "6118acb93113ab96a58af17c9dda63d571d1d2260231d975b49965f8eb96bcdb", func := "vestry/vestrylaw01.PlainOrders", spec := "plainOrders", apart := false, narrowed := true }
def PlainOrdersUptoSaid : Prop := plainOrdersUptoRow.holds Try.pinned (OpenSpec.upto plainOrdersSpec)

end Rows
end Go.Proofs.Ytknanockidellaa
