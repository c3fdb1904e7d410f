/-
  No cell of these rows narrows 'for every input' (looked for: loops, veiled, ifaces, maps, wideKeys, modest, calm, conditions, laid).
  DERIVED. THE GIVEN ROWS OF THIS SEAT. 4 by the template 'for every input the law returns true; each argument reads behind the call as it read before'; 0 by the template 'total and deterministic' (their statements: YtnhgjjpjmfjmjaaTotals.lean).
  GIVEN WITH THE SEED: the statements are not yours to turn. If you find one false, say at which input.
  Laid BY PROGRAM, IN A SANDBOX (cutbox-rows.mjs): the forced cells as the released guide's own fill.sh prints them over the translation a33edd09ae410566… (all of the seat's roots in one cut). By AI agents, Wed Nov 11 2026. No macro, syntax, notation, axiom, sorry.
-/
import Derived.Test.YtnhgjjpjmfjmjaaChecked
import GoSem.Claim
import GoSem.ClaimJoined
import GoSem.ClaimMapViews
import Derived.JoinedTies
import Derived.KernelRfl
namespace Go.Proofs.Ytnhgjjpjmfjmjaa
/- THE CELL 'sum', in the pinned program and in every row, IS THE sha256 OF THE DUMP (.gsa) THAT YtnhgjjpjmfjmjaaProg.lean LOADS. Nothing in Lean hashes anything: it is a label: what it is worth is what the hold of that sum in a sandbox is worth. -/
noncomputable def Try.pinned : Pinned := { name := "ytnhgjjpjmfjmjaa", sum := "a33edd09ae410566a558533707844e7833fe9cb6519a9a108a131a7600605aa5", checked := Try.checked }
namespace Rows
def none {H : Type} : Left H := { results := [], args := [] }

/-- 'vestrylaw03.RegistryPlays': WHATEVER THE INPUT: true; the input reads as it did. -/
def registryPlaysSpec : ChangeSpec := { name := "registryPlays", fn := fun _ => fun
  | [d] => { results := [.lit (.bool true)], args := [d] }
  | _ => none }
def registryPlaysRow : OpenClaim := { program := "ytnhgjjpjmfjmjaa", sum := "a33edd09ae410566a558533707844e7833fe9cb6519a9a108a131a7600605aa5", func := "vestry/vestrylaw03.RegistryPlays", spec := "registryPlays", inPlace := ["maps.clone"], plainKeys := false, apart := false }
def RegistryPlaysSaid : Prop := registryPlaysRow.holds Try.pinned (OpenSpec.ofChange registryPlaysSpec)

/-- ITS FALSE NEIGHBOUR: 'it returns false'. Refute it at one input. -/
def registryPlaysWrong : ChangeSpec := { name := "registryPlays", fn := fun _ => fun
  | [d] => { results := [.lit (.bool false)], args := [d] }
  | _ => none }
def RegistryPlaysWrongFalsely : Prop := registryPlaysRow.holds Try.pinned (OpenSpec.ofChange registryPlaysWrong)

/-- 'vestrylaw03.RegistryStays': WHATEVER THE INPUT: true; the input reads as it did. -/
def registryStaysSpec : ChangeSpec := { name := "registryStays", fn := fun _ => fun
  | [d1, d2, d3] => { results := [.lit (.bool true)], args := [d1, d2, d3] }
  | _ => none }
def registryStaysRow : OpenClaim := { program := "ytnhgjjpjmfjmjaa", sum := "a33edd09ae410566a558533707844e7833fe9cb6519a9a108a131a7600605aa5", func := "vestry/vestrylaw03.RegistryStays", spec := "registryStays", plainKeys := false, apart := false }
def RegistryStaysSaid : Prop := registryStaysRow.holds Try.pinned (OpenSpec.ofChange registryStaysSpec)

/-- ITS FALSE NEIGHBOUR: 'it returns false'. Refute it at one input. -/
def registryStaysWrong : ChangeSpec := { name := "registryStays", fn := fun _ => fun
  | [d1, d2, d3] => { results := [.lit (.bool false)], args := [d1, d2, d3] }
  | _ => none }
def RegistryStaysWrongFalsely : Prop := registryStaysRow.holds Try.pinned (OpenSpec.ofChange registryStaysWrong)

/-- 'vestrylaw03.RegistryCounts': WHATEVER THE INPUT: true; the input reads as it did. -/
def registryCountsSpec : ChangeSpec := { name := "registryCounts", fn := fun _ => fun
  | [d] => { results := [.lit (.bool true)], args := [d] }
  | _ => none }
def registryCountsRow : OpenClaim := { program := "ytnhgjjpjmfjmjaa", sum := "a33edd09ae410566a558533707844e7833fe9cb6519a9a108a131a7600605aa5", func := "vestry/vestrylaw03.RegistryCounts", spec := "registryCounts", plainKeys := false, apart := false }
def RegistryCountsSaid : Prop := registryCountsRow.holds Try.pinned (OpenSpec.ofChange registryCountsSpec)

/-- ITS FALSE NEIGHBOUR: 'it returns false'. Refute it at one input. -/
def registryCountsWrong : ChangeSpec := { name := "registryCounts", fn := fun _ => fun
  | [d] => { results := [.lit (.bool false)], args := [d] }
  | _ => none }
def RegistryCountsWrongFalsely : Prop := registryCountsRow.holds Try.pinned (OpenSpec.ofChange registryCountsWrong)

/-- 'vestrylaw03.RegistryCopies': WHATEVER THE INPUT: true; the input reads as it did. -/
def registryCopiesSpec : ChangeSpec := { name := "registryCopies", fn := fun _ => fun
  | [d1, d2, d3, d4] => { results := [.lit (.bool true)], args := [d1, d2, d3, d4] }
  | _ => none }
def registryCopiesRow : OpenClaim := { program := "ytnhgjjpjmfjmjaa", sum := "a33edd09ae410566a558533707844e7833fe9cb6519a9a108a131a7600605aa5", func := "vestry/vestrylaw03.RegistryCopies", spec := "registryCopies", inPlace := ["maps.clone"], plainKeys := false, apart := false }
def RegistryCopiesSaid : Prop := registryCopiesRow.holds Try.pinned (OpenSpec.ofChange registryCopiesSpec)

/-- ITS FALSE NEIGHBOUR: 'it returns false'. Refute it at one input. -/
def registryCopiesWrong : ChangeSpec := { name := "registryCopies", fn := fun _ => fun
  | [d1, d2, d3, d4] => { results := [.lit (.bool false)], args := [d1, d2, d3, d4] }
  | _ => none }
def RegistryCopiesWrongFalsely : Prop := registryCopiesRow.holds Try.pinned (OpenSpec.ofChange registryCopiesWrong)

/- THE SECOND FORM. 'bulk': how many values and letters a reading holds, each counted each time it is reached (what is shared counts as often as it is met; a slice's spare places count too). A statement '..UptoSaid' is the law's where the arguments, and the package variables that the reading takes, are together of bulk at most 1048576: NARROWER than '..Said'. Prove '..Said' where nothing that the law and all that it calls make is longer than what came in: it says more and counts as full. Else prove '..UptoSaid'. A law counts once. -/
mutual
def uptoBulk {H : Type} : DataW H → Nat
  | .lit (.string bytes) => bytes.length + 1
  | .lit _ => 1
  | .nil => 1
  | .ptr d => uptoBulk d + 1
  | .slice elems spare => uptoBulkAll elems + uptoBulkAll spare + 1
  | .agg parts => uptoBulkAll parts + 1
  | .iface _ d => uptoBulk d + 1
  | .map entries => uptoBulkEntries entries + 1
  | .held _ => 1
def uptoBulkAll {H : Type} : List (DataW H) → Nat
  | [] => 0
  | d :: r => uptoBulk d + uptoBulkAll r
def uptoBulkEntries {H : Type} : List (Lit × DataW H) → Nat
  | [] => 0
  | x :: r => uptoBulkEntry x + uptoBulkEntries r
def uptoBulkEntry {H : Type} : Lit × DataW H → Nat
  | (.string bytes, d) => bytes.length + uptoBulk d + 1
  | (_, d) => uptoBulk d + 1
 end
def uptoSmall : (H : Type) → List (DataW H) → Bool := fun _ ds => decide (uptoBulkAll ds ≤ 1048576)
def OpenSpec.upto (s : _root_.Go.ChangeSpec) : _root_.Go.OpenSpec := { _root_.Go.OpenSpec.ofChange s with cond := some uptoSmall }

/-- 'vestrylaw03.RegistryPlays', WHERE WHAT IT READS IS OF BULK AT MOST 1048576: true; the input reads as it did. -/
def registryPlaysUptoRow : OpenClaim := { program := "ytnhgjjpjmfjmjaa", sum := "a33edd09ae410566a558533707844e7833fe9cb6519a9a108a131a7600605aa5", func := "vestry/vestrylaw03.RegistryPlays", spec := "registryPlays", inPlace := ["maps.clone"], plainKeys := false, apart := false, narrowed := true }
def RegistryPlaysUptoSaid : Prop := registryPlaysUptoRow.holds Try.pinned (OpenSpec.upto registryPlaysSpec)

/-- 'vestrylaw03.RegistryStays', WHERE WHAT IT READS IS OF BULK AT MOST 1048576: true; the input reads as it did. -/
def registryStaysUptoRow : OpenClaim := { program := "ytnhgjjpjmfjmjaa", sum := "a33edd09ae410566a558533707844e7833fe9cb6519a9a108a131a7600605aa5", func := "vestry/vestrylaw03.RegistryStays", spec := "registryStays", plainKeys := false, apart := false, narrowed := true }
def RegistryStaysUptoSaid : Prop := registryStaysUptoRow.holds Try.pinned (OpenSpec.upto registryStaysSpec)

/-- 'vestrylaw03.RegistryCounts', WHERE WHAT IT READS IS OF BULK AT MOST 1048576: true; the input reads as it did. -/
def registryCountsUptoRow : OpenClaim := { program := "ytnhgjjpjmfjmjaa", sum := "a33edd09ae410566a558533707844e7833fe9cb6519a9a108a131a7600605aa5", func := "vestry/vestrylaw03.RegistryCounts", spec := "registryCounts", plainKeys := false, apart := false, narrowed := true }
def RegistryCountsUptoSaid : Prop := registryCountsUptoRow.holds Try.pinned (OpenSpec.upto registryCountsSpec)

/-- 'vestrylaw03.RegistryCopies', WHERE WHAT IT READS IS OF BULK AT MOST 1048576: true; the input reads as it did. -/
def registryCopiesUptoRow : OpenClaim := { program := "ytnhgjjpjmfjmjaa", sum := "a33edd09ae410566a558533707844e7833fe9cb6519a9a108a131a7600605aa5", func := "vestry/vestrylaw03.RegistryCopies", spec := "registryCopies", inPlace := ["maps.clone"], plainKeys := false, apart := false, narrowed := true }
def RegistryCopiesUptoSaid : Prop := registryCopiesUptoRow.holds Try.pinned (OpenSpec.upto registryCopiesSpec)

end Rows
end Go.Proofs.Ytnhgjjpjmfjmjaa
