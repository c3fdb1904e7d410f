/-
  NARROWER THAN 'FOR EVERY INPUT', by the rows' own cells (each row's printed sentence says how): ProofTells: laid · ProofCodes: laid · ProofMakes: laid · ProofSound: laid · ProofOwn: laid.
  DERIVED. THE GIVEN ROWS OF THIS SEAT. 5 by the template 'for every input the law returns true; each argument reads behind the call as it read before'; 0 by the template 'total and deterministic' (their statements: YtmafaioohiaenaaDoorTotals.lean).
  GIVEN WITH THE SEED: the statements are not yours to turn. If you find one false, say at which input.
  Laid BY PROGRAM, IN A SANDBOX (cutbox-rows.mjs): the forced cells as the released guide's own fill.sh prints them over the translation c66c999d72b5ffcb… (all of the seat's roots in one cut). By AI agents, Wed Nov 11 2026. No macro, syntax, notation, axiom, sorry.
-/
import Derived.Test.YtmafaioohiaenaaDoorChecked
import GoSem.Claim
import GoSem.ClaimJoined
import GoSem.ClaimMapViews
import Derived.JoinedTies
import Derived.KernelRfl
namespace Go.Proofs.YtmafaioohiaenaaDoor
/- THE CELL 'sum', in the pinned program and in every row, IS THE sha256 OF THE DUMP (.gsa) THAT YtmafaioohiaenaaDoorProg.lean LOADS. Nothing in Lean hashes anything: it is a label: what it is worth is what the hold of that sum in a sandbox is worth. -/
noncomputable def Tryd.pinned : Pinned := { name := "ytmafaioohiaenaadoor", sum := "c66c999d72b5ffcbe1ee6c7f352e0c3f50d7f75a2e4da9cae9ae4183a2b6c2f8", checked := Tryd.checked }
namespace Rows
def none {H : Type} : Left H := { results := [], args := [] }

/- WHAT THE LISTED PACKAGE-LEVEL VARIABLES READ AS WHEN THE CALL BEGINS. Each datum BY PROGRAM (the guide's laid-datum.mjs) off the statement by which the dump's own 'gosem.cut.vars' lays the variable. In a bare row this is a premise. The card (YtmafaioohiaenaaDoorCards.lean) ties it to the program's text. -/
def laid_vestry_digest_squareRoots {H : Type} : DataW H := .agg [.lit (.int .u32 1779033703), .lit (.int .u32 3144134277), .lit (.int .u32 1013904242), .lit (.int .u32 2773480762), .lit (.int .u32 1359893119), .lit (.int .u32 2600822924), .lit (.int .u32 528734635), .lit (.int .u32 1541459225)]
def laid_vestry_digest_cubeRoots {H : Type} : DataW H := .agg [.lit (.int .u32 1116352408), .lit (.int .u32 1899447441), .lit (.int .u32 3049323471), .lit (.int .u32 3921009573), .lit (.int .u32 961987163), .lit (.int .u32 1508970993), .lit (.int .u32 2453635748), .lit (.int .u32 2870763221), .lit (.int .u32 3624381080), .lit (.int .u32 310598401), .lit (.int .u32 607225278), .lit (.int .u32 1426881987), .lit (.int .u32 1925078388), .lit (.int .u32 2162078206), .lit (.int .u32 2614888103), .lit (.int .u32 3248222580), .lit (.int .u32 3835390401), .lit (.int .u32 4022224774), .lit (.int .u32 264347078), .lit (.int .u32 604807628), .lit (.int .u32 770255983), .lit (.int .u32 1249150122), .lit (.int .u32 1555081692), .lit (.int .u32 1996064986), .lit (.int .u32 2554220882), .lit (.int .u32 2821834349), .lit (.int .u32 2952996808), .lit (.int .u32 3210313671), .lit (.int .u32 3336571891), .lit (.int .u32 3584528711), .lit (.int .u32 113926993), .lit (.int .u32 338241895), .lit (.int .u32 666307205), .lit (.int .u32 773529912), .lit (.int .u32 1294757372), .lit (.int .u32 1396182291), .lit (.int .u32 1695183700), .lit (.int .u32 1986661051), .lit (.int .u32 2177026350), .lit (.int .u32 2456956037), .lit (.int .u32 2730485921), .lit (.int .u32 2820302411), .lit (.int .u32 3259730800), .lit (.int .u32 3345764771), .lit (.int .u32 3516065817), .lit (.int .u32 3600352804), .lit (.int .u32 4094571909), .lit (.int .u32 275423344), .lit (.int .u32 430227734), .lit (.int .u32 506948616), .lit (.int .u32 659060556), .lit (.int .u32 883997877), .lit (.int .u32 958139571), .lit (.int .u32 1322822218), .lit (.int .u32 1537002063), .lit (.int .u32 1747873779), .lit (.int .u32 1955562222), .lit (.int .u32 2024104815), .lit (.int .u32 2227730452), .lit (.int .u32 2361852424), .lit (.int .u32 2428436474), .lit (.int .u32 2756734187), .lit (.int .u32 3204031479), .lit (.int .u32 3329325298)]

/-- 'vestrylaw05.ProofTells': WHATEVER THE INPUT: true; the input reads as it did. -/
def proofTellsSpec : ChangeSpec := { name := "proofTells", fn := fun _ => fun
  | [d1, d2, d3, d4] => { results := [.lit (.bool true)], args := [d1, d2, d3, d4] }
  | _ => none }
def proofTellsRow : OpenClaim := { program := "ytmafaioohiaenaadoor", sum := "c66c999d72b5ffcbe1ee6c7f352e0c3f50d7f75a2e4da9cae9ae4183a2b6c2f8", func := "vestry/vestrylaw05.ProofTells", spec := "proofTells", unfollowed := true, recurses := true, named := ["vestry/digest.squareRoots", "vestry/digest.cubeRoots"], apart := false, laid := [("vestry/digest.squareRoots", laid_vestry_digest_squareRoots), ("vestry/digest.cubeRoots", laid_vestry_digest_cubeRoots)] }
def ProofTellsSaid : Prop := proofTellsRow.holds Tryd.pinned (OpenSpec.ofChange proofTellsSpec)

/-- ITS FALSE NEIGHBOUR: 'it returns false'. Refute it at one input. -/
def proofTellsWrong : ChangeSpec := { name := "proofTells", fn := fun _ => fun
  | [d1, d2, d3, d4] => { results := [.lit (.bool false)], args := [d1, d2, d3, d4] }
  | _ => none }
def ProofTellsWrongFalsely : Prop := proofTellsRow.holds Tryd.pinned (OpenSpec.ofChange proofTellsWrong)

/-- 'vestrylaw05.ProofCodes': WHATEVER THE INPUT: true; the input reads as it did. -/
def proofCodesSpec : ChangeSpec := { name := "proofCodes", fn := fun _ => fun
  | [d1, d2] => { results := [.lit (.bool true)], args := [d1, d2] }
  | _ => none }
def proofCodesRow : OpenClaim := { program := "ytmafaioohiaenaadoor", sum := "c66c999d72b5ffcbe1ee6c7f352e0c3f50d7f75a2e4da9cae9ae4183a2b6c2f8", func := "vestry/vestrylaw05.ProofCodes", spec := "proofCodes", unfollowed := true, recurses := true, named := ["vestry/digest.squareRoots", "vestry/digest.cubeRoots"], apart := false, laid := [("vestry/digest.squareRoots", laid_vestry_digest_squareRoots), ("vestry/digest.cubeRoots", laid_vestry_digest_cubeRoots)] }
def ProofCodesSaid : Prop := proofCodesRow.holds Tryd.pinned (OpenSpec.ofChange proofCodesSpec)

/-- ITS FALSE NEIGHBOUR: 'it returns false'. Refute it at one input. -/
def proofCodesWrong : ChangeSpec := { name := "proofCodes", fn := fun _ => fun
  | [d1, d2] => { results := [.lit (.bool false)], args := [d1, d2] }
  | _ => none }
def ProofCodesWrongFalsely : Prop := proofCodesRow.holds Tryd.pinned (OpenSpec.ofChange proofCodesWrong)

/-- 'vestrylaw05.ProofMakes': WHATEVER THE INPUT: true; the input reads as it did. -/
def proofMakesSpec : ChangeSpec := { name := "proofMakes", fn := fun _ => fun
  | [d1, d2] => { results := [.lit (.bool true)], args := [d1, d2] }
  | _ => none }
def proofMakesRow : OpenClaim := { program := "ytmafaioohiaenaadoor", sum := "c66c999d72b5ffcbe1ee6c7f352e0c3f50d7f75a2e4da9cae9ae4183a2b6c2f8", func := "vestry/vestrylaw05.ProofMakes", spec := "proofMakes", unfollowed := true, recurses := true, named := ["vestry/digest.squareRoots", "vestry/digest.cubeRoots"], apart := false, laid := [("vestry/digest.squareRoots", laid_vestry_digest_squareRoots), ("vestry/digest.cubeRoots", laid_vestry_digest_cubeRoots)] }
def ProofMakesSaid : Prop := proofMakesRow.holds Tryd.pinned (OpenSpec.ofChange proofMakesSpec)

/-- ITS FALSE NEIGHBOUR: 'it returns false'. Refute it at one input. -/
def proofMakesWrong : ChangeSpec := { name := "proofMakes", fn := fun _ => fun
  | [d1, d2] => { results := [.lit (.bool false)], args := [d1, d2] }
  | _ => none }
def ProofMakesWrongFalsely : Prop := proofMakesRow.holds Tryd.pinned (OpenSpec.ofChange proofMakesWrong)

/-- 'vestrylaw05.ProofSound': WHATEVER THE INPUT: true; the input reads as it did. -/
def proofSoundSpec : ChangeSpec := { name := "proofSound", fn := fun _ => fun
  | [d1, d2, d3] => { results := [.lit (.bool true)], args := [d1, d2, d3] }
  | _ => none }
def proofSoundRow : OpenClaim := { program := "ytmafaioohiaenaadoor", sum := "c66c999d72b5ffcbe1ee6c7f352e0c3f50d7f75a2e4da9cae9ae4183a2b6c2f8", func := "vestry/vestrylaw05.ProofSound", spec := "proofSound", unfollowed := true, recurses := true, named := ["vestry/digest.squareRoots", "vestry/digest.cubeRoots"], apart := false, laid := [("vestry/digest.squareRoots", laid_vestry_digest_squareRoots), ("vestry/digest.cubeRoots", laid_vestry_digest_cubeRoots)] }
def ProofSoundSaid : Prop := proofSoundRow.holds Tryd.pinned (OpenSpec.ofChange proofSoundSpec)

/-- ITS FALSE NEIGHBOUR: 'it returns false'. Refute it at one input. -/
def proofSoundWrong : ChangeSpec := { name := "proofSound", fn := fun _ => fun
  | [d1, d2, d3] => { results := [.lit (.bool false)], args := [d1, d2, d3] }
  | _ => none }
def ProofSoundWrongFalsely : Prop := proofSoundRow.holds Tryd.pinned (OpenSpec.ofChange proofSoundWrong)

/-- 'vestrylaw05.ProofOwn': WHATEVER THE INPUT: true; the input reads as it did. -/
def proofOwnSpec : ChangeSpec := { name := "proofOwn", fn := fun _ => fun
  | [d] => { results := [.lit (.bool true)], args := [d] }
  | _ => none }
def proofOwnRow : OpenClaim := { program := "ytmafaioohiaenaadoor", sum := "c66c999d72b5ffcbe1ee6c7f352e0c3f50d7f75a2e4da9cae9ae4183a2b6c2f8", func := "vestry/vestrylaw05.ProofOwn", spec := "proofOwn", unfollowed := true, recurses := true, named := ["vestry/digest.squareRoots", "vestry/digest.cubeRoots"], apart := false, laid := [("vestry/digest.squareRoots", laid_vestry_digest_squareRoots), ("vestry/digest.cubeRoots", laid_vestry_digest_cubeRoots)] }
def ProofOwnSaid : Prop := proofOwnRow.holds Tryd.pinned (OpenSpec.ofChange proofOwnSpec)

/-- ITS FALSE NEIGHBOUR: 'it returns false'. Refute it at one input. -/
def proofOwnWrong : ChangeSpec := { name := "proofOwn", fn := fun _ => fun
  | [d] => { results := [.lit (.bool false)], args := [d] }
  | _ => none }
def ProofOwnWrongFalsely : Prop := proofOwnRow.holds Tryd.pinned (OpenSpec.ofChange proofOwnWrong)

/- THE SECOND FORM. 'bulk': how many values and letters a reading holds, each counted each time it is reached (what is shared counts as often as it is met; a slice's spare places count too). A statement '..UptoSaid' is the law's where the arguments, and the package variables that the reading takes, are together of bulk at most 1048576: NARROWER than '..Said'. Prove '..Said' where nothing that the law and all that it calls make is longer than what came in: it says more and counts as full. Else prove '..UptoSaid'. A law counts once. -/
mutual
def uptoBulk {H : Type} : DataW H → Nat
  | .lit (.string bytes) => bytes.length + 1
  | .lit _ => 1
  | .nil => 1
  | .ptr d => uptoBulk d + 1
  | .slice elems spare => uptoBulkAll elems + uptoBulkAll spare + 1
  | .agg parts => uptoBulkAll parts + 1
  | .iface _ d => uptoBulk d + 1
  | .map entries => uptoBulkEntries entries + 1
  | .held _ => 1
def uptoBulkAll {H : Type} : List (DataW H) → Nat
  | [] => 0
  | d :: r => uptoBulk d + uptoBulkAll r
def uptoBulkEntries {H : Type} : List (Lit × DataW H) → Nat
  | [] => 0
  | x :: r => uptoBulkEntry x + uptoBulkEntries r
def uptoBulkEntry {H : Type} : Lit × DataW H → Nat
  | (.string bytes, d) => bytes.length + uptoBulk d + 1
  | (_, d) => uptoBulk d + 1
 end
def uptoSmall : (H : Type) → List (DataW H) → Bool := fun _ ds => decide (uptoBulkAll ds ≤ 1048576)
def OpenSpec.upto (s : _root_.Go.ChangeSpec) : _root_.Go.OpenSpec := { _root_.Go.OpenSpec.ofChange s with cond := some uptoSmall }

/-- 'vestrylaw05.ProofTells', WHERE WHAT IT READS IS OF BULK AT MOST 1048576: true; the input reads as it did. -/
def proofTellsUptoRow : OpenClaim := { program := "ytmafaioohiaenaadoor", sum := "c66c999d72b5ffcbe1ee6c7f352e0c3f50d7f75a2e4da9cae9ae4183a2b6c2f8", func := "vestry/vestrylaw05.ProofTells", spec := "proofTells", unfollowed := true, recurses := true, named := ["vestry/digest.squareRoots", "vestry/digest.cubeRoots"], apart := false, laid := [("vestry/digest.squareRoots", laid_vestry_digest_squareRoots), ("vestry/digest.cubeRoots", laid_vestry_digest_cubeRoots)], narrowed := true }
def ProofTellsUptoSaid : Prop := proofTellsUptoRow.holds Tryd.pinned (OpenSpec.upto proofTellsSpec)

/-- 'vestrylaw05.ProofCodes', WHERE WHAT IT READS IS OF BULK AT MOST 1048576: true; the input reads as it did. -/
def proofCodesUptoRow : OpenClaim := { program := "ytmafaioohiaenaadoor", sum := "c66c999d72b5ffcbe1ee6c7f352e0c3f50d7f75a2e4da9cae9ae4183a2b6c2f8", func := "vestry/vestrylaw05.ProofCodes", spec := "proofCodes", unfollowed := true, recurses := true, named := ["vestry/digest.squareRoots", "vestry/digest.cubeRoots"], apart := false, laid := [("vestry/digest.squareRoots", laid_vestry_digest_squareRoots), ("vestry/digest.cubeRoots", laid_vestry_digest_cubeRoots)], narrowed := true }
def ProofCodesUptoSaid : Prop := proofCodesUptoRow.holds Tryd.pinned (OpenSpec.upto proofCodesSpec)

/-- 'vestrylaw05.ProofMakes', WHERE WHAT IT READS IS OF BULK AT MOST 1048576: true; the input reads as it did. -/
def proofMakesUptoRow : OpenClaim := { program := "ytmafaioohiaenaadoor", sum := "c66c999d72b5ffcbe1ee6c7f352e0c3f50d7f75a2e4da9cae9ae4183a2b6c2f8", func := "vestry/vestrylaw05.ProofMakes", spec := "proofMakes", unfollowed := true, recurses := true, named := ["vestry/digest.squareRoots", "vestry/digest.cubeRoots"], apart := false, laid := [("vestry/digest.squareRoots", laid_vestry_digest_squareRoots), ("vestry/digest.cubeRoots", laid_vestry_digest_cubeRoots)], narrowed := true }
def ProofMakesUptoSaid : Prop := proofMakesUptoRow.holds Tryd.pinned (OpenSpec.upto proofMakesSpec)

/-- 'vestrylaw05.ProofSound', WHERE WHAT IT READS IS OF BULK AT MOST 1048576: true; the input reads as it did. -/
def proofSoundUptoRow : OpenClaim := { program := "ytmafaioohiaenaadoor", sum := "c66c999d72b5ffcbe1ee6c7f352e0c3f50d7f75a2e4da9cae9ae4183a2b6c2f8", func := "vestry/vestrylaw05.ProofSound", spec := "proofSound", unfollowed := true, recurses := true, named := ["vestry/digest.squareRoots", "vestry/digest.cubeRoots"], apart := false, laid := [("vestry/digest.squareRoots", laid_vestry_digest_squareRoots), ("vestry/digest.cubeRoots", laid_vestry_digest_cubeRoots)], narrowed := true }
def ProofSoundUptoSaid : Prop := proofSoundUptoRow.holds Tryd.pinned (OpenSpec.upto proofSoundSpec)

/-- 'vestrylaw05.ProofOwn', WHERE WHAT IT READS IS OF BULK AT MOST 1048576: true; the input reads as it did. -/
def proofOwnUptoRow : OpenClaim := { program := "ytmafaioohiaenaadoor", sum := "c66c999d72b5ffcbe1ee6c7f352e0c3f50d7f75a2e4da9cae9ae4183a2b6c2f8", func := "vestry/vestrylaw05.ProofOwn", spec := "proofOwn", unfollowed := true, recurses := true, named := ["vestry/digest.squareRoots", "vestry/digest.cubeRoots"], apart := false, laid := [("vestry/digest.squareRoots", laid_vestry_digest_squareRoots), ("vestry/digest.cubeRoots", laid_vestry_digest_cubeRoots)], narrowed := true }
def ProofOwnUptoSaid : Prop := proofOwnUptoRow.holds Tryd.pinned (OpenSpec.upto proofOwnSpec)

end Rows
end Go.Proofs.YtmafaioohiaenaaDoor
