/-
  No cell of these rows narrows 'for every input' (looked for: loops, veiled, ifaces, maps, wideKeys, modest, calm, conditions, laid).
  DERIVED. THE GIVEN ROWS OF THIS SEAT. 7 by the template 'for every input the law returns true; each argument reads behind the call as it read before'; 0 by the template 'total and deterministic' (their statements: YtdhofngildjifaaTotals.lean).
  GIVEN WITH THE SEED: the statements are not yours to turn. If you find one false, say at which input.
  Laid BY PROGRAM, IN A SANDBOX (cutbox-rows.mjs): the forced cells as the released guide's own fill.sh prints them over the translation 37c224d244acf223… (all of the seat's roots in one cut). By AI agents, Wed Nov 11 2026. No macro, syntax, notation, axiom, sorry.
-/
import Derived.Test.YtdhofngildjifaaChecked
import GoSem.Claim
import GoSem.ClaimJoined
import GoSem.ClaimMapViews
import Derived.JoinedTies
import Derived.KernelRfl
namespace Go.Proofs.Ytdhofngildjifaa
/- THE CELL 'sum', in the pinned program and in every row, IS THE sha256 OF THE DUMP (.gsa) THAT YtdhofngildjifaaProg.lean LOADS. Nothing in Lean hashes anything: it is a label: what it is worth is what the hold of that sum in a sandbox is worth. -/
noncomputable def Try.pinned : Pinned := { name := "ytdhofngildjifaa", sum := "37c224d244acf223069c075a868802fcc752d7742a222656d6d10d00d7e7fc9a", checked := Try.checked }
namespace Rows
def none {H : Type} : Left H := { results := [], args := [] }

/-- 'leakresponselaw23.DirectoryExact': WHATEVER THE INPUT: true; the input reads as it did. -/
def directoryExactSpec : ChangeSpec := { name := "directoryExact", fn := fun _ => fun
  | [d1, d2, d3, d4, d5, d6] => { results := [.lit (.bool true)], args := [d1, d2, d3, d4, d5, d6] }
  | _ => none }
def directoryExactRow : OpenClaim := { program := "ytdhofngildjifaa", sum := "37c224d244acf223069c075a868802fcc752d7742a222656d6d10d00d7e7fc9a", func := "leakresponse/leakresponselaw23.DirectoryExact", spec := "directoryExact", unfollowed := true, recurses := true, apart := false }
def DirectoryExactSaid : Prop := directoryExactRow.holds Try.pinned (OpenSpec.ofChange directoryExactSpec)

/-- ITS FALSE NEIGHBOUR: 'it returns false'. Refute it at one input. -/
def directoryExactWrong : ChangeSpec := { name := "directoryExact", fn := fun _ => fun
  | [d1, d2, d3, d4, d5, d6] => { results := [.lit (.bool false)], args := [d1, d2, d3, d4, d5, d6] }
  | _ => none }
def DirectoryExactWrongFalsely : Prop := directoryExactRow.holds Try.pinned (OpenSpec.ofChange directoryExactWrong)

/-- 'leakresponselaw23.DirectoryProofs': WHATEVER THE INPUT: true; the input reads as it did. -/
def directoryProofsSpec : ChangeSpec := { name := "directoryProofs", fn := fun _ => fun
  | [d] => { results := [.lit (.bool true)], args := [d] }
  | _ => none }
def directoryProofsRow : OpenClaim := { program := "ytdhofngildjifaa", sum := "37c224d244acf223069c075a868802fcc752d7742a222656d6d10d00d7e7fc9a", func := "leakresponse/leakresponselaw23.DirectoryProofs", spec := "directoryProofs", unfollowed := true, recurses := true, apart := false }
def DirectoryProofsSaid : Prop := directoryProofsRow.holds Try.pinned (OpenSpec.ofChange directoryProofsSpec)

/-- ITS FALSE NEIGHBOUR: 'it returns false'. Refute it at one input. -/
def directoryProofsWrong : ChangeSpec := { name := "directoryProofs", fn := fun _ => fun
  | [d] => { results := [.lit (.bool false)], args := [d] }
  | _ => none }
def DirectoryProofsWrongFalsely : Prop := directoryProofsRow.holds Try.pinned (OpenSpec.ofChange directoryProofsWrong)

/-- 'leakresponselaw23.DirectoryLeast': WHATEVER THE INPUT: true; the input reads as it did. -/
def directoryLeastSpec : ChangeSpec := { name := "directoryLeast", fn := fun _ => fun
  | [d] => { results := [.lit (.bool true)], args := [d] }
  | _ => none }
def directoryLeastRow : OpenClaim := { program := "ytdhofngildjifaa", sum := "37c224d244acf223069c075a868802fcc752d7742a222656d6d10d00d7e7fc9a", func := "leakresponse/leakresponselaw23.DirectoryLeast", spec := "directoryLeast", unfollowed := true, recurses := true, apart := false }
def DirectoryLeastSaid : Prop := directoryLeastRow.holds Try.pinned (OpenSpec.ofChange directoryLeastSpec)

/-- ITS FALSE NEIGHBOUR: 'it returns false'. Refute it at one input. -/
def directoryLeastWrong : ChangeSpec := { name := "directoryLeast", fn := fun _ => fun
  | [d] => { results := [.lit (.bool false)], args := [d] }
  | _ => none }
def DirectoryLeastWrongFalsely : Prop := directoryLeastRow.holds Try.pinned (OpenSpec.ofChange directoryLeastWrong)

/-- 'leakresponselaw23.DirectoryLater': WHATEVER THE INPUT: true; the input reads as it did. -/
def directoryLaterSpec : ChangeSpec := { name := "directoryLater", fn := fun _ => fun
  | [d] => { results := [.lit (.bool true)], args := [d] }
  | _ => none }
def directoryLaterRow : OpenClaim := { program := "ytdhofngildjifaa", sum := "37c224d244acf223069c075a868802fcc752d7742a222656d6d10d00d7e7fc9a", func := "leakresponse/leakresponselaw23.DirectoryLater", spec := "directoryLater", unfollowed := true, recurses := true, apart := false }
def DirectoryLaterSaid : Prop := directoryLaterRow.holds Try.pinned (OpenSpec.ofChange directoryLaterSpec)

/-- ITS FALSE NEIGHBOUR: 'it returns false'. Refute it at one input. -/
def directoryLaterWrong : ChangeSpec := { name := "directoryLater", fn := fun _ => fun
  | [d] => { results := [.lit (.bool false)], args := [d] }
  | _ => none }
def DirectoryLaterWrongFalsely : Prop := directoryLaterRow.holds Try.pinned (OpenSpec.ofChange directoryLaterWrong)

/-- 'leakresponselaw23.DirectoryUnions': WHATEVER THE INPUT: true; the input reads as it did. -/
def directoryUnionsSpec : ChangeSpec := { name := "directoryUnions", fn := fun _ => fun
  | [d] => { results := [.lit (.bool true)], args := [d] }
  | _ => none }
def directoryUnionsRow : OpenClaim := { program := "ytdhofngildjifaa", sum := "37c224d244acf223069c075a868802fcc752d7742a222656d6d10d00d7e7fc9a", func := "leakresponse/leakresponselaw23.DirectoryUnions", spec := "directoryUnions", unfollowed := true, recurses := true, apart := false }
def DirectoryUnionsSaid : Prop := directoryUnionsRow.holds Try.pinned (OpenSpec.ofChange directoryUnionsSpec)

/-- ITS FALSE NEIGHBOUR: 'it returns false'. Refute it at one input. -/
def directoryUnionsWrong : ChangeSpec := { name := "directoryUnions", fn := fun _ => fun
  | [d] => { results := [.lit (.bool false)], args := [d] }
  | _ => none }
def DirectoryUnionsWrongFalsely : Prop := directoryUnionsRow.holds Try.pinned (OpenSpec.ofChange directoryUnionsWrong)

/-- 'leakresponselaw23.DirectoryKinds': WHATEVER THE INPUT: true; the input reads as it did. -/
def directoryKindsSpec : ChangeSpec := { name := "directoryKinds", fn := fun _ => fun
  | [d] => { results := [.lit (.bool true)], args := [d] }
  | _ => none }
def directoryKindsRow : OpenClaim := { program := "ytdhofngildjifaa", sum := "37c224d244acf223069c075a868802fcc752d7742a222656d6d10d00d7e7fc9a", func := "leakresponse/leakresponselaw23.DirectoryKinds", spec := "directoryKinds", unfollowed := true, recurses := true, apart := false }
def DirectoryKindsSaid : Prop := directoryKindsRow.holds Try.pinned (OpenSpec.ofChange directoryKindsSpec)

/-- ITS FALSE NEIGHBOUR: 'it returns false'. Refute it at one input. -/
def directoryKindsWrong : ChangeSpec := { name := "directoryKinds", fn := fun _ => fun
  | [d] => { results := [.lit (.bool false)], args := [d] }
  | _ => none }
def DirectoryKindsWrongFalsely : Prop := directoryKindsRow.holds Try.pinned (OpenSpec.ofChange directoryKindsWrong)

/-- 'leakresponselaw23.DirectoryLeaves': WHATEVER THE INPUT: true; the input reads as it did. -/
def directoryLeavesSpec : ChangeSpec := { name := "directoryLeaves", fn := fun _ => fun
  | [d] => { results := [.lit (.bool true)], args := [d] }
  | _ => none }
def directoryLeavesRow : OpenClaim := { program := "ytdhofngildjifaa", sum := "37c224d244acf223069c075a868802fcc752d7742a222656d6d10d00d7e7fc9a", func := "leakresponse/leakresponselaw23.DirectoryLeaves", spec := "directoryLeaves", unfollowed := true, recurses := true, apart := false }
def DirectoryLeavesSaid : Prop := directoryLeavesRow.holds Try.pinned (OpenSpec.ofChange directoryLeavesSpec)

/-- ITS FALSE NEIGHBOUR: 'it returns false'. Refute it at one input. -/
def directoryLeavesWrong : ChangeSpec := { name := "directoryLeaves", fn := fun _ => fun
  | [d] => { results := [.lit (.bool false)], args := [d] }
  | _ => none }
def DirectoryLeavesWrongFalsely : Prop := directoryLeavesRow.holds Try.pinned (OpenSpec.ofChange directoryLeavesWrong)

/- THE SECOND FORM. 'bulk': how many values and letters a reading holds, each counted each time it is reached (what is shared counts as often as it is met; a slice's spare places count too). A statement '..UptoSaid' is the law's where the arguments, and the package variables that the reading takes, are together of bulk at most 1048576: NARROWER than '..Said'. Prove '..Said' where nothing that the law and all that it calls make is longer than what came in: it says more and counts as full. Else prove '..UptoSaid'. A law counts once. -/
mutual
def uptoBulk {H : Type} : DataW H → Nat
  | .lit (.string bytes) => bytes.length + 1
  | .lit _ => 1
  | .nil => 1
  | .ptr d => uptoBulk d + 1
  | .slice elems spare => uptoBulkAll elems + uptoBulkAll spare + 1
  | .agg parts => uptoBulkAll parts + 1
  | .iface _ d => uptoBulk d + 1
  | .map entries => uptoBulkEntries entries + 1
  | .held _ => 1
def uptoBulkAll {H : Type} : List (DataW H) → Nat
  | [] => 0
  | d :: r => uptoBulk d + uptoBulkAll r
def uptoBulkEntries {H : Type} : List (Lit × DataW H) → Nat
  | [] => 0
  | x :: r => uptoBulkEntry x + uptoBulkEntries r
def uptoBulkEntry {H : Type} : Lit × DataW H → Nat
  | (.string bytes, d) => bytes.length + uptoBulk d + 1
  | (_, d) => uptoBulk d + 1
 end
def uptoSmall : (H : Type) → List (DataW H) → Bool := fun _ ds => decide (uptoBulkAll ds ≤ 1048576)
def OpenSpec.upto (s : _root_.Go.ChangeSpec) : _root_.Go.OpenSpec := { _root_.Go.OpenSpec.ofChange s with cond := some uptoSmall }

/-- 'leakresponselaw23.DirectoryExact', WHERE WHAT IT READS IS OF BULK AT MOST 1048576: true; the input reads as it did. -/
def directoryExactUptoRow : OpenClaim := { program := "ytdhofngildjifaa", sum := "37c224d244acf223069c075a868802fcc752d7742a222656d6d10d00d7e7fc9a", func := "leakresponse/leakresponselaw23.DirectoryExact", spec := "directoryExact", unfollowed := true, recurses := true, apart := false, narrowed := true }
def DirectoryExactUptoSaid : Prop := directoryExactUptoRow.holds Try.pinned (OpenSpec.upto directoryExactSpec)

/-- 'leakresponselaw23.DirectoryProofs', WHERE WHAT IT READS IS OF BULK AT MOST 1048576: true; the input reads as it did. -/
def directoryProofsUptoRow : OpenClaim := { program := "ytdhofngildjifaa", sum := "37c224d244acf223069c075a868802fcc752d7742a222656d6d10d00d7e7fc9a", func := "leakresponse/leakresponselaw23.DirectoryProofs", spec := "directoryProofs", unfollowed := true, recurses := true, apart := false, narrowed := true }
def DirectoryProofsUptoSaid : Prop := directoryProofsUptoRow.holds Try.pinned (OpenSpec.upto directoryProofsSpec)

/-- 'leakresponselaw23.DirectoryLeast', WHERE WHAT IT READS IS OF BULK AT MOST 1048576: true; the input reads as it did. -/
def directoryLeastUptoRow : OpenClaim := { program := "ytdhofngildjifaa", sum := "37c224d244acf223069c075a868802fcc752d7742a222656d6d10d00d7e7fc9a", func := "leakresponse/leakresponselaw23.DirectoryLeast", spec := "directoryLeast", unfollowed := true, recurses := true, apart := false, narrowed := true }
def DirectoryLeastUptoSaid : Prop := directoryLeastUptoRow.holds Try.pinned (OpenSpec.upto directoryLeastSpec)

/-- 'leakresponselaw23.DirectoryLater', WHERE WHAT IT READS IS OF BULK AT MOST 1048576: true; the input reads as it did. -/
def directoryLaterUptoRow : OpenClaim := { program := "ytdhofngildjifaa", sum := "37c224d244acf223069c075a868802fcc752d7742a222656d6d10d00d7e7fc9a", func := "leakresponse/leakresponselaw23.DirectoryLater", spec := "directoryLater", unfollowed := true, recurses := true, apart := false, narrowed := true }
def DirectoryLaterUptoSaid : Prop := directoryLaterUptoRow.holds Try.pinned (OpenSpec.upto directoryLaterSpec)

/-- 'leakresponselaw23.DirectoryUnions', WHERE WHAT IT READS IS OF BULK AT MOST 1048576: true; the input reads as it did. -/
def directoryUnionsUptoRow : OpenClaim := { program := "ytdhofngildjifaa", sum := "37c224d244acf223069c075a868802fcc752d7742a222656d6d10d00d7e7fc9a", func := "leakresponse/leakresponselaw23.DirectoryUnions", spec := "directoryUnions", unfollowed := true, recurses := true, apart := false, narrowed := true }
def DirectoryUnionsUptoSaid : Prop := directoryUnionsUptoRow.holds Try.pinned (OpenSpec.upto directoryUnionsSpec)

/-- 'leakresponselaw23.DirectoryKinds', WHERE WHAT IT READS IS OF BULK AT MOST 1048576: true; the input reads as it did. -/
def directoryKindsUptoRow : OpenClaim := { program := "ytdhofngildjifaa", sum := "37c224d244acf223069c075a868802fcc752d7742a222656d6d10d00d7e7fc9a", func := "leakresponse/leakresponselaw23.DirectoryKinds", spec := "directoryKinds", unfollowed := true, recurses := true, apart := false, narrowed := true }
def DirectoryKindsUptoSaid : Prop := directoryKindsUptoRow.holds Try.pinned (OpenSpec.upto directoryKindsSpec)

/-- 'leakresponselaw23.DirectoryLeaves', WHERE WHAT IT READS IS OF BULK AT MOST 1048576: true; the input reads as it did. -/
def directoryLeavesUptoRow : OpenClaim := { program := "ytdhofngildjifaa", sum := "37c224d244acf223069c075a868802fcc752d7742a222656d6d10d00d7e7fc9a", func := "leakresponse/leakresponselaw23.DirectoryLeaves", spec := "directoryLeaves", unfollowed := true, recurses := true, apart := false, narrowed := true }
def DirectoryLeavesUptoSaid : Prop := directoryLeavesUptoRow.holds Try.pinned (OpenSpec.upto directoryLeavesSpec)

end Rows
end Go.Proofs.Ytdhofngildjifaa
