/-
  No cell of these rows narrows 'for every input' (looked for: loops, veiled, ifaces, maps, wideKeys, modest, calm, conditions, laid).
  DERIVED. THE GIVEN ROWS OF THIS SEAT. 10 by the template 'for every input the law returns true; each argument reads behind the call as it read before'; 0 by the template 'total and deterministic' (their statements: YtidpkkekoldkgaaTotals.lean).
  GIVEN WITH THE SEED: the statements are not yours to turn. If you find one false, say at which input.
  Laid BY PROGRAM, IN A SANDBOX (cutbox-rows.mjs): the forced cells as the released guide's own fill.sh prints them over the translation 7118beb1e92f9f08… (all of the seat's roots in one cut). By AI agents, Wed Nov 11 2026. No macro, syntax, notation, axiom, sorry.
-/
import Derived.Test.YtidpkkekoldkgaaChecked
import GoSem.Claim
import GoSem.ClaimJoined
import GoSem.ClaimMapViews
import Derived.JoinedTies
import Derived.KernelRfl
namespace Go.Proofs.Ytidpkkekoldkgaa
/- THE CELL 'sum', in the pinned program and in every row, IS THE sha256 OF THE DUMP (.gsa) THAT YtidpkkekoldkgaaProg.lean LOADS. Nothing in Lean hashes anything: it is a label: what it is worth is what the hold of that sum in a sandbox is worth. -/
noncomputable def Try.pinned : Pinned := { name := "ytidpkkekoldkgaa", sum := "7118beb1e92f9f0878fdd63e6e249f2ea6d92328c66c08adc7a064c1e4746784", checked := Try.checked }
namespace Rows
def none {H : Type} : Left H := { results := [], args := [] }

/-- 'leakresponselaw02.EntropyLogs': WHATEVER THE INPUT: true; the input reads as it did. -/
def entropyLogsSpec : ChangeSpec := { name := "entropyLogs", fn := fun _ => fun
  | [d] => { results := [.lit (.bool true)], args := [d] }
  | _ => none }
def entropyLogsRow : OpenClaim := { program := "ytidpkkekoldkgaa", sum := "7118beb1e92f9f0878fdd63e6e249f2ea6d92328c66c08adc7a064c1e4746784", func := "leakresponse/leakresponselaw02.EntropyLogs", spec := "entropyLogs", apart := false }
def EntropyLogsSaid : Prop := entropyLogsRow.holds Try.pinned (OpenSpec.ofChange entropyLogsSpec)

/-- ITS FALSE NEIGHBOUR: 'it returns false'. Refute it at one input. -/
def entropyLogsWrong : ChangeSpec := { name := "entropyLogs", fn := fun _ => fun
  | [d] => { results := [.lit (.bool false)], args := [d] }
  | _ => none }
def EntropyLogsWrongFalsely : Prop := entropyLogsRow.holds Try.pinned (OpenSpec.ofChange entropyLogsWrong)

/-- 'leakresponselaw02.EntropyMeasures': WHATEVER THE INPUT: true; the input reads as it did. -/
def entropyMeasuresSpec : ChangeSpec := { name := "entropyMeasures", fn := fun _ => fun
  | [d1, d2] => { results := [.lit (.bool true)], args := [d1, d2] }
  | _ => none }
def entropyMeasuresRow : OpenClaim := { program := "ytidpkkekoldkgaa", sum := "7118beb1e92f9f0878fdd63e6e249f2ea6d92328c66c08adc7a064c1e4746784", func := "leakresponse/leakresponselaw02.EntropyMeasures", spec := "entropyMeasures", apart := false }
def EntropyMeasuresSaid : Prop := entropyMeasuresRow.holds Try.pinned (OpenSpec.ofChange entropyMeasuresSpec)

/-- ITS FALSE NEIGHBOUR: 'it returns false'. Refute it at one input. -/
def entropyMeasuresWrong : ChangeSpec := { name := "entropyMeasures", fn := fun _ => fun
  | [d1, d2] => { results := [.lit (.bool false)], args := [d1, d2] }
  | _ => none }
def EntropyMeasuresWrongFalsely : Prop := entropyMeasuresRow.holds Try.pinned (OpenSpec.ofChange entropyMeasuresWrong)

/-- 'leakresponselaw02.EntropyOrder': WHATEVER THE INPUT: true; the input reads as it did. -/
def entropyOrderSpec : ChangeSpec := { name := "entropyOrder", fn := fun _ => fun
  | [d1, d2] => { results := [.lit (.bool true)], args := [d1, d2] }
  | _ => none }
def entropyOrderRow : OpenClaim := { program := "ytidpkkekoldkgaa", sum := "7118beb1e92f9f0878fdd63e6e249f2ea6d92328c66c08adc7a064c1e4746784", func := "leakresponse/leakresponselaw02.EntropyOrder", spec := "entropyOrder", apart := false }
def EntropyOrderSaid : Prop := entropyOrderRow.holds Try.pinned (OpenSpec.ofChange entropyOrderSpec)

/-- ITS FALSE NEIGHBOUR: 'it returns false'. Refute it at one input. -/
def entropyOrderWrong : ChangeSpec := { name := "entropyOrder", fn := fun _ => fun
  | [d1, d2] => { results := [.lit (.bool false)], args := [d1, d2] }
  | _ => none }
def EntropyOrderWrongFalsely : Prop := entropyOrderRow.holds Try.pinned (OpenSpec.ofChange entropyOrderWrong)

/-- 'leakresponselaw02.EntropyGrows': WHATEVER THE INPUT: true; the input reads as it did. -/
def entropyGrowsSpec : ChangeSpec := { name := "entropyGrows", fn := fun _ => fun
  | [d1, d2] => { results := [.lit (.bool true)], args := [d1, d2] }
  | _ => none }
def entropyGrowsRow : OpenClaim := { program := "ytidpkkekoldkgaa", sum := "7118beb1e92f9f0878fdd63e6e249f2ea6d92328c66c08adc7a064c1e4746784", func := "leakresponse/leakresponselaw02.EntropyGrows", spec := "entropyGrows", apart := false }
def EntropyGrowsSaid : Prop := entropyGrowsRow.holds Try.pinned (OpenSpec.ofChange entropyGrowsSpec)

/-- ITS FALSE NEIGHBOUR: 'it returns false'. Refute it at one input. -/
def entropyGrowsWrong : ChangeSpec := { name := "entropyGrows", fn := fun _ => fun
  | [d1, d2] => { results := [.lit (.bool false)], args := [d1, d2] }
  | _ => none }
def EntropyGrowsWrongFalsely : Prop := entropyGrowsRow.holds Try.pinned (OpenSpec.ofChange entropyGrowsWrong)

/-- 'leakresponselaw02.EntropyCounts': WHATEVER THE INPUT: true; the input reads as it did. -/
def entropyCountsSpec : ChangeSpec := { name := "entropyCounts", fn := fun _ => fun
  | [d1, d2, d3] => { results := [.lit (.bool true)], args := [d1, d2, d3] }
  | _ => none }
def entropyCountsRow : OpenClaim := { program := "ytidpkkekoldkgaa", sum := "7118beb1e92f9f0878fdd63e6e249f2ea6d92328c66c08adc7a064c1e4746784", func := "leakresponse/leakresponselaw02.EntropyCounts", spec := "entropyCounts", apart := false }
def EntropyCountsSaid : Prop := entropyCountsRow.holds Try.pinned (OpenSpec.ofChange entropyCountsSpec)

/-- ITS FALSE NEIGHBOUR: 'it returns false'. Refute it at one input. -/
def entropyCountsWrong : ChangeSpec := { name := "entropyCounts", fn := fun _ => fun
  | [d1, d2, d3] => { results := [.lit (.bool false)], args := [d1, d2, d3] }
  | _ => none }
def EntropyCountsWrongFalsely : Prop := entropyCountsRow.holds Try.pinned (OpenSpec.ofChange entropyCountsWrong)

/-- 'leakresponselaw04.FingerprintOf': WHATEVER THE INPUT: true; the input reads as it did. -/
def fingerprintOfSpec : ChangeSpec := { name := "fingerprintOf", fn := fun _ => fun
  | [d1, d2, d3, d4] => { results := [.lit (.bool true)], args := [d1, d2, d3, d4] }
  | _ => none }
def fingerprintOfRow : OpenClaim := { program := "ytidpkkekoldkgaa", sum := "7118beb1e92f9f0878fdd63e6e249f2ea6d92328c66c08adc7a064c1e4746784", func := "leakresponse/leakresponselaw04.FingerprintOf", spec := "fingerprintOf", unfollowed := true, recurses := true, apart := false }
def FingerprintOfSaid : Prop := fingerprintOfRow.holds Try.pinned (OpenSpec.ofChange fingerprintOfSpec)

/-- ITS FALSE NEIGHBOUR: 'it returns false'. Refute it at one input. -/
def fingerprintOfWrong : ChangeSpec := { name := "fingerprintOf", fn := fun _ => fun
  | [d1, d2, d3, d4] => { results := [.lit (.bool false)], args := [d1, d2, d3, d4] }
  | _ => none }
def FingerprintOfWrongFalsely : Prop := fingerprintOfRow.holds Try.pinned (OpenSpec.ofChange fingerprintOfWrong)

/-- 'leakresponselaw04.FingerprintSame': WHATEVER THE INPUT: true; the input reads as it did. -/
def fingerprintSameSpec : ChangeSpec := { name := "fingerprintSame", fn := fun _ => fun
  | [d1, d2, d3, d4, d5] => { results := [.lit (.bool true)], args := [d1, d2, d3, d4, d5] }
  | _ => none }
def fingerprintSameRow : OpenClaim := { program := "ytidpkkekoldkgaa", sum := "7118beb1e92f9f0878fdd63e6e249f2ea6d92328c66c08adc7a064c1e4746784", func := "leakresponse/leakresponselaw04.FingerprintSame", spec := "fingerprintSame", unfollowed := true, recurses := true, apart := false }
def FingerprintSameSaid : Prop := fingerprintSameRow.holds Try.pinned (OpenSpec.ofChange fingerprintSameSpec)

/-- ITS FALSE NEIGHBOUR: 'it returns false'. Refute it at one input. -/
def fingerprintSameWrong : ChangeSpec := { name := "fingerprintSame", fn := fun _ => fun
  | [d1, d2, d3, d4, d5] => { results := [.lit (.bool false)], args := [d1, d2, d3, d4, d5] }
  | _ => none }
def FingerprintSameWrongFalsely : Prop := fingerprintSameRow.holds Try.pinned (OpenSpec.ofChange fingerprintSameWrong)

/-- 'leakresponselaw04.FingerprintApart': WHATEVER THE INPUT: true; the input reads as it did. -/
def fingerprintApartSpec : ChangeSpec := { name := "fingerprintApart", fn := fun _ => fun
  | [d1, d2, d3, d4] => { results := [.lit (.bool true)], args := [d1, d2, d3, d4] }
  | _ => none }
def fingerprintApartRow : OpenClaim := { program := "ytidpkkekoldkgaa", sum := "7118beb1e92f9f0878fdd63e6e249f2ea6d92328c66c08adc7a064c1e4746784", func := "leakresponse/leakresponselaw04.FingerprintApart", spec := "fingerprintApart", unfollowed := true, recurses := true, apart := false }
def FingerprintApartSaid : Prop := fingerprintApartRow.holds Try.pinned (OpenSpec.ofChange fingerprintApartSpec)

/-- ITS FALSE NEIGHBOUR: 'it returns false'. Refute it at one input. -/
def fingerprintApartWrong : ChangeSpec := { name := "fingerprintApart", fn := fun _ => fun
  | [d1, d2, d3, d4] => { results := [.lit (.bool false)], args := [d1, d2, d3, d4] }
  | _ => none }
def FingerprintApartWrongFalsely : Prop := fingerprintApartRow.holds Try.pinned (OpenSpec.ofChange fingerprintApartWrong)

/-- 'leakresponselaw04.FingerprintMixes': WHATEVER THE INPUT: true; the input reads as it did. -/
def fingerprintMixesSpec : ChangeSpec := { name := "fingerprintMixes", fn := fun _ => fun
  | [d1, d2, d3] => { results := [.lit (.bool true)], args := [d1, d2, d3] }
  | _ => none }
def fingerprintMixesRow : OpenClaim := { program := "ytidpkkekoldkgaa", sum := "7118beb1e92f9f0878fdd63e6e249f2ea6d92328c66c08adc7a064c1e4746784", func := "leakresponse/leakresponselaw04.FingerprintMixes", spec := "fingerprintMixes", unfollowed := true, recurses := true, apart := false }
def FingerprintMixesSaid : Prop := fingerprintMixesRow.holds Try.pinned (OpenSpec.ofChange fingerprintMixesSpec)

/-- ITS FALSE NEIGHBOUR: 'it returns false'. Refute it at one input. -/
def fingerprintMixesWrong : ChangeSpec := { name := "fingerprintMixes", fn := fun _ => fun
  | [d1, d2, d3] => { results := [.lit (.bool false)], args := [d1, d2, d3] }
  | _ => none }
def FingerprintMixesWrongFalsely : Prop := fingerprintMixesRow.holds Try.pinned (OpenSpec.ofChange fingerprintMixesWrong)

/-- 'leakresponselaw04.FingerprintLength': WHATEVER THE INPUT: true; the input reads as it did. -/
def fingerprintLengthSpec : ChangeSpec := { name := "fingerprintLength", fn := fun _ => fun
  | [d1, d2, d3] => { results := [.lit (.bool true)], args := [d1, d2, d3] }
  | _ => none }
def fingerprintLengthRow : OpenClaim := { program := "ytidpkkekoldkgaa", sum := "7118beb1e92f9f0878fdd63e6e249f2ea6d92328c66c08adc7a064c1e4746784", func := "leakresponse/leakresponselaw04.FingerprintLength", spec := "fingerprintLength", unfollowed := true, recurses := true, apart := false }
def FingerprintLengthSaid : Prop := fingerprintLengthRow.holds Try.pinned (OpenSpec.ofChange fingerprintLengthSpec)

/-- ITS FALSE NEIGHBOUR: 'it returns false'. Refute it at one input. -/
def fingerprintLengthWrong : ChangeSpec := { name := "fingerprintLength", fn := fun _ => fun
  | [d1, d2, d3] => { results := [.lit (.bool false)], args := [d1, d2, d3] }
  | _ => none }
def FingerprintLengthWrongFalsely : Prop := fingerprintLengthRow.holds Try.pinned (OpenSpec.ofChange fingerprintLengthWrong)

/- THE SECOND FORM. 'bulk': how many values and letters a reading holds, each counted each time it is reached (what is shared counts as often as it is met; a slice's spare places count too). A statement '..UptoSaid' is the law's where the arguments, and the package variables that the reading takes, are together of bulk at most 1048576: NARROWER than '..Said'. Prove '..Said' where nothing that the law and all that it calls make is longer than what came in: it says more and counts as full. Else prove '..UptoSaid'. A law counts once. -/
mutual
def uptoBulk {H : Type} : DataW H → Nat
  | .lit (.string bytes) => bytes.length + 1
  | .lit _ => 1
  | .nil => 1
  | .ptr d => uptoBulk d + 1
  | .slice elems spare => uptoBulkAll elems + uptoBulkAll spare + 1
  | .agg parts => uptoBulkAll parts + 1
  | .iface _ d => uptoBulk d + 1
  | .map entries => uptoBulkEntries entries + 1
  | .held _ => 1
def uptoBulkAll {H : Type} : List (DataW H) → Nat
  | [] => 0
  | d :: r => uptoBulk d + uptoBulkAll r
def uptoBulkEntries {H : Type} : List (Lit × DataW H) → Nat
  | [] => 0
  | x :: r => uptoBulkEntry x + uptoBulkEntries r
def uptoBulkEntry {H : Type} : Lit × DataW H → Nat
  | (.string bytes, d) => bytes.length + uptoBulk d + 1
  | (_, d) => uptoBulk d + 1
 end
def uptoSmall : (H : Type) → List (DataW H) → Bool := fun _ ds => decide (uptoBulkAll ds ≤ 1048576)
def OpenSpec.upto (s : _root_.Go.ChangeSpec) : _root_.Go.OpenSpec := { _root_.Go.OpenSpec.ofChange s with cond := some uptoSmall }

/-- 'leakresponselaw02.EntropyLogs', WHERE WHAT IT READS IS OF BULK AT MOST 1048576: true; the input reads as it did. -/
def entropyLogsUptoRow : OpenClaim := { program := "ytidpkkekoldkgaa", sum := "7118beb1e92f9f0878fdd63e6e249f2ea6d92328c66c08adc7a064c1e4746784", func := "leakresponse/leakresponselaw02.EntropyLogs", spec := "entropyLogs", apart := false, narrowed := true }
def EntropyLogsUptoSaid : Prop := entropyLogsUptoRow.holds Try.pinned (OpenSpec.upto entropyLogsSpec)

/-- 'leakresponselaw02.EntropyMeasures', WHERE WHAT IT READS IS OF BULK AT MOST 1048576: true; the input reads as it did. -/
def entropyMeasuresUptoRow : OpenClaim := { program := "ytidpkkekoldkgaa", sum := "7118beb1e92f9f0878fdd63e6e249f2ea6d92328c66c08adc7a064c1e4746784", func := "leakresponse/leakresponselaw02.EntropyMeasures", spec := "entropyMeasures", apart := false, narrowed := true }
def EntropyMeasuresUptoSaid : Prop := entropyMeasuresUptoRow.holds Try.pinned (OpenSpec.upto entropyMeasuresSpec)

/-- 'leakresponselaw02.EntropyOrder', WHERE WHAT IT READS IS OF BULK AT MOST 1048576: true; the input reads as it did. -/
def entropyOrderUptoRow : OpenClaim := { program := "ytidpkkekoldkgaa", sum := "7118beb1e92f9f0878fdd63e6e249f2ea6d92328c66c08adc7a064c1e4746784", func := "leakresponse/leakresponselaw02.EntropyOrder", spec := "entropyOrder", apart := false, narrowed := true }
def EntropyOrderUptoSaid : Prop := entropyOrderUptoRow.holds Try.pinned (OpenSpec.upto entropyOrderSpec)

/-- 'leakresponselaw02.EntropyGrows', WHERE WHAT IT READS IS OF BULK AT MOST 1048576: true; the input reads as it did. -/
def entropyGrowsUptoRow : OpenClaim := { program := "ytidpkkekoldkgaa", sum := "7118beb1e92f9f0878fdd63e6e249f2ea6d92328c66c08adc7a064c1e4746784", func := "leakresponse/leakresponselaw02.EntropyGrows", spec := "entropyGrows", apart := false, narrowed := true }
def EntropyGrowsUptoSaid : Prop := entropyGrowsUptoRow.holds Try.pinned (OpenSpec.upto entropyGrowsSpec)

/-- 'leakresponselaw02.EntropyCounts', WHERE WHAT IT READS IS OF BULK AT MOST 1048576: true; the input reads as it did. -/
def entropyCountsUptoRow : OpenClaim := { program := "ytidpkkekoldkgaa", sum := "7118beb1e92f9f0878fdd63e6e249f2ea6d92328c66c08adc7a064c1e4746784", func := "leakresponse/leakresponselaw02.EntropyCounts", spec := "entropyCounts", apart := false, narrowed := true }
def EntropyCountsUptoSaid : Prop := entropyCountsUptoRow.holds Try.pinned (OpenSpec.upto entropyCountsSpec)

/-- 'leakresponselaw04.FingerprintOf', WHERE WHAT IT READS IS OF BULK AT MOST 1048576: true; the input reads as it did. -/
def fingerprintOfUptoRow : OpenClaim := { program := "ytidpkkekoldkgaa", sum := "7118beb1e92f9f0878fdd63e6e249f2ea6d92328c66c08adc7a064c1e4746784", func := "leakresponse/leakresponselaw04.FingerprintOf", spec := "fingerprintOf", unfollowed := true, recurses := true, apart := false, narrowed := true }
def FingerprintOfUptoSaid : Prop := fingerprintOfUptoRow.holds Try.pinned (OpenSpec.upto fingerprintOfSpec)

/-- 'leakresponselaw04.FingerprintSame', WHERE WHAT IT READS IS OF BULK AT MOST 1048576: true; the input reads as it did. -/
def fingerprintSameUptoRow : OpenClaim := { program := "ytidpkkekoldkgaa", sum := "7118beb1e92f9f0878fdd63e6e249f2ea6d92328c66c08adc7a064c1e4746784", func := "leakresponse/leakresponselaw04.FingerprintSame", spec := "fingerprintSame", unfollowed := true, recurses := true, apart := false, narrowed := true }
def FingerprintSameUptoSaid : Prop := fingerprintSameUptoRow.holds Try.pinned (OpenSpec.upto fingerprintSameSpec)

/-- 'leakresponselaw04.FingerprintApart', WHERE WHAT IT READS IS OF BULK AT MOST 1048576: true; the input reads as it did. -/
def fingerprintApartUptoRow : OpenClaim := { program := "ytidpkkekoldkgaa", sum := "7118beb1e92f9f0878fdd63e6e249f2ea6d92328c66c08adc7a064c1e4746784", func := "leakresponse/leakresponselaw04.FingerprintApart", spec := "fingerprintApart", unfollowed := true, recurses := true, apart := false, narrowed := true }
def FingerprintApartUptoSaid : Prop := fingerprintApartUptoRow.holds Try.pinned (OpenSpec.upto fingerprintApartSpec)

/-- 'leakresponselaw04.FingerprintMixes', WHERE WHAT IT READS IS OF BULK AT MOST 1048576: true; the input reads as it did. -/
def fingerprintMixesUptoRow : OpenClaim := { program := "ytidpkkekoldkgaa", sum := "7118beb1e92f9f0878fdd63e6e249f2ea6d92328c66c08adc7a064c1e4746784", func := "leakresponse/leakresponselaw04.FingerprintMixes", spec := "fingerprintMixes", unfollowed := true, recurses := true, apart := false, narrowed := true }
def FingerprintMixesUptoSaid : Prop := fingerprintMixesUptoRow.holds Try.pinned (OpenSpec.upto fingerprintMixesSpec)

/-- 'leakresponselaw04.FingerprintLength', WHERE WHAT IT READS IS OF BULK AT MOST 1048576: true; the input reads as it did. -/
def fingerprintLengthUptoRow : OpenClaim := { program := "ytidpkkekoldkgaa", sum := "7118beb1e92f9f0878fdd63e6e249f2ea6d92328c66c08adc7a064c1e4746784", func := "leakresponse/leakresponselaw04.FingerprintLength", spec := "fingerprintLength", unfollowed := true, recurses := true, apart := false, narrowed := true }
def FingerprintLengthUptoSaid : Prop := fingerprintLengthUptoRow.holds Try.pinned (OpenSpec.upto fingerprintLengthSpec)

end Rows
end Go.Proofs.Ytidpkkekoldkgaa
