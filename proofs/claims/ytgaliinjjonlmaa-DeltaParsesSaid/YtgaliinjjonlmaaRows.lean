/-
  No cell of these rows narrows 'for every input' (looked for: loops, veiled, ifaces, maps, wideKeys, modest, calm, conditions, laid).
  DERIVED. THE GIVEN ROWS OF THIS SEAT. 12 by the template 'for every input the law returns true; each argument reads behind the call as it read before'; 0 by the template 'total and deterministic' (their statements: YtgaliinjjonlmaaTotals.lean).
  GIVEN WITH THE SEED: the statements are not yours to turn. If you find one false, say at which input.
  Laid BY PROGRAM, IN A SANDBOX (cutbox-rows.mjs): the forced cells as the released guide's own fill.sh prints them over the translation 2e2070a379c91414… (all of the seat's roots in one cut). By AI agents, Wed Nov 11 2026. No macro, syntax, notation, axiom, sorry.
-/
import Derived.Test.YtgaliinjjonlmaaChecked
import GoSem.Claim
import GoSem.ClaimJoined
import GoSem.ClaimMapViews
import Derived.JoinedTies
import Derived.KernelRfl
namespace Go.Proofs.Ytgaliinjjonlmaa
/- THE CELL 'sum', in the pinned program and in every row, IS THE sha256 OF THE DUMP (.gsa) THAT YtgaliinjjonlmaaProg.lean LOADS. Nothing in Lean hashes anything: it is a label: what it is worth is what the hold of that sum in a sandbox is worth. -/
noncomputable def Try.pinned : Pinned := { name := "ytgaliinjjonlmaa", sum := "2e2070a379c9141485acab806f80656af1eb16ed97767be818091a417510a335", checked := Try.checked }
namespace Rows
def none {H : Type} : Left H := { results := [], args := [] }

/-- 'leakresponselaw12.DeltaApplies': WHATEVER THE INPUT: true; the input reads as it did. -/
def deltaAppliesSpec : ChangeSpec := { name := "deltaApplies", fn := fun _ => fun
  | [d1, d2, d3] => { results := [.lit (.bool true)], args := [d1, d2, d3] }
  | _ => none }
def deltaAppliesRow : OpenClaim := { program := "ytgaliinjjonlmaa", sum := "2e2070a379c9141485acab806f80656af1eb16ed97767be818091a417510a335", func := "leakresponse/leakresponselaw12.DeltaApplies", spec := "deltaApplies", unfollowed := true, recurses := true, apart := false }
def DeltaAppliesSaid : Prop := deltaAppliesRow.holds Try.pinned (OpenSpec.ofChange deltaAppliesSpec)

/-- ITS FALSE NEIGHBOUR: 'it returns false'. Refute it at one input. -/
def deltaAppliesWrong : ChangeSpec := { name := "deltaApplies", fn := fun _ => fun
  | [d1, d2, d3] => { results := [.lit (.bool false)], args := [d1, d2, d3] }
  | _ => none }
def DeltaAppliesWrongFalsely : Prop := deltaAppliesRow.holds Try.pinned (OpenSpec.ofChange deltaAppliesWrong)

/-- 'leakresponselaw12.DeltaMakes': WHATEVER THE INPUT: true; the input reads as it did. -/
def deltaMakesSpec : ChangeSpec := { name := "deltaMakes", fn := fun _ => fun
  | [d1, d2, d3] => { results := [.lit (.bool true)], args := [d1, d2, d3] }
  | _ => none }
def deltaMakesRow : OpenClaim := { program := "ytgaliinjjonlmaa", sum := "2e2070a379c9141485acab806f80656af1eb16ed97767be818091a417510a335", func := "leakresponse/leakresponselaw12.DeltaMakes", spec := "deltaMakes", unfollowed := true, recurses := true, apart := false }
def DeltaMakesSaid : Prop := deltaMakesRow.holds Try.pinned (OpenSpec.ofChange deltaMakesSpec)

/-- ITS FALSE NEIGHBOUR: 'it returns false'. Refute it at one input. -/
def deltaMakesWrong : ChangeSpec := { name := "deltaMakes", fn := fun _ => fun
  | [d1, d2, d3] => { results := [.lit (.bool false)], args := [d1, d2, d3] }
  | _ => none }
def DeltaMakesWrongFalsely : Prop := deltaMakesRow.holds Try.pinned (OpenSpec.ofChange deltaMakesWrong)

/-- 'leakresponselaw12.DeltaFormats': WHATEVER THE INPUT: true; the input reads as it did. -/
def deltaFormatsSpec : ChangeSpec := { name := "deltaFormats", fn := fun _ => fun
  | [d1, d2] => { results := [.lit (.bool true)], args := [d1, d2] }
  | _ => none }
def deltaFormatsRow : OpenClaim := { program := "ytgaliinjjonlmaa", sum := "2e2070a379c9141485acab806f80656af1eb16ed97767be818091a417510a335", func := "leakresponse/leakresponselaw12.DeltaFormats", spec := "deltaFormats", unfollowed := true, recurses := true, apart := false }
def DeltaFormatsSaid : Prop := deltaFormatsRow.holds Try.pinned (OpenSpec.ofChange deltaFormatsSpec)

/-- ITS FALSE NEIGHBOUR: 'it returns false'. Refute it at one input. -/
def deltaFormatsWrong : ChangeSpec := { name := "deltaFormats", fn := fun _ => fun
  | [d1, d2] => { results := [.lit (.bool false)], args := [d1, d2] }
  | _ => none }
def DeltaFormatsWrongFalsely : Prop := deltaFormatsRow.holds Try.pinned (OpenSpec.ofChange deltaFormatsWrong)

/-- 'leakresponselaw12.DeltaParses': WHATEVER THE INPUT: true; the input reads as it did. -/
def deltaParsesSpec : ChangeSpec := { name := "deltaParses", fn := fun _ => fun
  | [d1, d2, d3, d4] => { results := [.lit (.bool true)], args := [d1, d2, d3, d4] }
  | _ => none }
def deltaParsesRow : OpenClaim := { program := "ytgaliinjjonlmaa", sum := "2e2070a379c9141485acab806f80656af1eb16ed97767be818091a417510a335", func := "leakresponse/leakresponselaw12.DeltaParses", spec := "deltaParses", unfollowed := true, recurses := true, apart := false }
def DeltaParsesSaid : Prop := deltaParsesRow.holds Try.pinned (OpenSpec.ofChange deltaParsesSpec)

/-- ITS FALSE NEIGHBOUR: 'it returns false'. Refute it at one input. -/
def deltaParsesWrong : ChangeSpec := { name := "deltaParses", fn := fun _ => fun
  | [d1, d2, d3, d4] => { results := [.lit (.bool false)], args := [d1, d2, d3, d4] }
  | _ => none }
def DeltaParsesWrongFalsely : Prop := deltaParsesRow.holds Try.pinned (OpenSpec.ofChange deltaParsesWrong)

/-- 'leakresponselaw12.DeltaBack': WHATEVER THE INPUT: true; the input reads as it did. -/
def deltaBackSpec : ChangeSpec := { name := "deltaBack", fn := fun _ => fun
  | [d] => { results := [.lit (.bool true)], args := [d] }
  | _ => none }
def deltaBackRow : OpenClaim := { program := "ytgaliinjjonlmaa", sum := "2e2070a379c9141485acab806f80656af1eb16ed97767be818091a417510a335", func := "leakresponse/leakresponselaw12.DeltaBack", spec := "deltaBack", unfollowed := true, recurses := true, apart := false }
def DeltaBackSaid : Prop := deltaBackRow.holds Try.pinned (OpenSpec.ofChange deltaBackSpec)

/-- ITS FALSE NEIGHBOUR: 'it returns false'. Refute it at one input. -/
def deltaBackWrong : ChangeSpec := { name := "deltaBack", fn := fun _ => fun
  | [d] => { results := [.lit (.bool false)], args := [d] }
  | _ => none }
def DeltaBackWrongFalsely : Prop := deltaBackRow.holds Try.pinned (OpenSpec.ofChange deltaBackWrong)

/-- 'leakresponselaw12.DeltaChains': WHATEVER THE INPUT: true; the input reads as it did. -/
def deltaChainsSpec : ChangeSpec := { name := "deltaChains", fn := fun _ => fun
  | [d] => { results := [.lit (.bool true)], args := [d] }
  | _ => none }
def deltaChainsRow : OpenClaim := { program := "ytgaliinjjonlmaa", sum := "2e2070a379c9141485acab806f80656af1eb16ed97767be818091a417510a335", func := "leakresponse/leakresponselaw12.DeltaChains", spec := "deltaChains", unfollowed := true, recurses := true, apart := false }
def DeltaChainsSaid : Prop := deltaChainsRow.holds Try.pinned (OpenSpec.ofChange deltaChainsSpec)

/-- ITS FALSE NEIGHBOUR: 'it returns false'. Refute it at one input. -/
def deltaChainsWrong : ChangeSpec := { name := "deltaChains", fn := fun _ => fun
  | [d] => { results := [.lit (.bool false)], args := [d] }
  | _ => none }
def DeltaChainsWrongFalsely : Prop := deltaChainsRow.holds Try.pinned (OpenSpec.ofChange deltaChainsWrong)

/-- 'leakresponselaw12.DeltaWhole': WHATEVER THE INPUT: true; the input reads as it did. -/
def deltaWholeSpec : ChangeSpec := { name := "deltaWhole", fn := fun _ => fun
  | [d] => { results := [.lit (.bool true)], args := [d] }
  | _ => none }
def deltaWholeRow : OpenClaim := { program := "ytgaliinjjonlmaa", sum := "2e2070a379c9141485acab806f80656af1eb16ed97767be818091a417510a335", func := "leakresponse/leakresponselaw12.DeltaWhole", spec := "deltaWhole", unfollowed := true, recurses := true, apart := false }
def DeltaWholeSaid : Prop := deltaWholeRow.holds Try.pinned (OpenSpec.ofChange deltaWholeSpec)

/-- ITS FALSE NEIGHBOUR: 'it returns false'. Refute it at one input. -/
def deltaWholeWrong : ChangeSpec := { name := "deltaWhole", fn := fun _ => fun
  | [d] => { results := [.lit (.bool false)], args := [d] }
  | _ => none }
def DeltaWholeWrongFalsely : Prop := deltaWholeRow.holds Try.pinned (OpenSpec.ofChange deltaWholeWrong)

/-- 'leakresponselaw42.LedgerExact': WHATEVER THE INPUT: true; the input reads as it did. -/
def ledgerExactSpec : ChangeSpec := { name := "ledgerExact", fn := fun _ => fun
  | [d1, d2, d3, d4, d5, d6, d7] => { results := [.lit (.bool true)], args := [d1, d2, d3, d4, d5, d6, d7] }
  | _ => none }
def ledgerExactRow : OpenClaim := { program := "ytgaliinjjonlmaa", sum := "2e2070a379c9141485acab806f80656af1eb16ed97767be818091a417510a335", func := "leakresponse/leakresponselaw42.LedgerExact", spec := "ledgerExact", unfollowed := true, recurses := true, apart := false }
def LedgerExactSaid : Prop := ledgerExactRow.holds Try.pinned (OpenSpec.ofChange ledgerExactSpec)

/-- ITS FALSE NEIGHBOUR: 'it returns false'. Refute it at one input. -/
def ledgerExactWrong : ChangeSpec := { name := "ledgerExact", fn := fun _ => fun
  | [d1, d2, d3, d4, d5, d6, d7] => { results := [.lit (.bool false)], args := [d1, d2, d3, d4, d5, d6, d7] }
  | _ => none }
def LedgerExactWrongFalsely : Prop := ledgerExactRow.holds Try.pinned (OpenSpec.ofChange ledgerExactWrong)

/-- 'leakresponselaw42.LedgerPast': WHATEVER THE INPUT: true; the input reads as it did. -/
def ledgerPastSpec : ChangeSpec := { name := "ledgerPast", fn := fun _ => fun
  | [d] => { results := [.lit (.bool true)], args := [d] }
  | _ => none }
def ledgerPastRow : OpenClaim := { program := "ytgaliinjjonlmaa", sum := "2e2070a379c9141485acab806f80656af1eb16ed97767be818091a417510a335", func := "leakresponse/leakresponselaw42.LedgerPast", spec := "ledgerPast", unfollowed := true, recurses := true, apart := false }
def LedgerPastSaid : Prop := ledgerPastRow.holds Try.pinned (OpenSpec.ofChange ledgerPastSpec)

/-- ITS FALSE NEIGHBOUR: 'it returns false'. Refute it at one input. -/
def ledgerPastWrong : ChangeSpec := { name := "ledgerPast", fn := fun _ => fun
  | [d] => { results := [.lit (.bool false)], args := [d] }
  | _ => none }
def LedgerPastWrongFalsely : Prop := ledgerPastRow.holds Try.pinned (OpenSpec.ofChange ledgerPastWrong)

/-- 'leakresponselaw42.LedgerLine': WHATEVER THE INPUT: true; the input reads as it did. -/
def ledgerLineSpec : ChangeSpec := { name := "ledgerLine", fn := fun _ => fun
  | [d] => { results := [.lit (.bool true)], args := [d] }
  | _ => none }
def ledgerLineRow : OpenClaim := { program := "ytgaliinjjonlmaa", sum := "2e2070a379c9141485acab806f80656af1eb16ed97767be818091a417510a335", func := "leakresponse/leakresponselaw42.LedgerLine", spec := "ledgerLine", unfollowed := true, recurses := true, apart := false }
def LedgerLineSaid : Prop := ledgerLineRow.holds Try.pinned (OpenSpec.ofChange ledgerLineSpec)

/-- ITS FALSE NEIGHBOUR: 'it returns false'. Refute it at one input. -/
def ledgerLineWrong : ChangeSpec := { name := "ledgerLine", fn := fun _ => fun
  | [d] => { results := [.lit (.bool false)], args := [d] }
  | _ => none }
def LedgerLineWrongFalsely : Prop := ledgerLineRow.holds Try.pinned (OpenSpec.ofChange ledgerLineWrong)

/-- 'leakresponselaw42.LedgerLearns': WHATEVER THE INPUT: true; the input reads as it did. -/
def ledgerLearnsSpec : ChangeSpec := { name := "ledgerLearns", fn := fun _ => fun
  | [d] => { results := [.lit (.bool true)], args := [d] }
  | _ => none }
def ledgerLearnsRow : OpenClaim := { program := "ytgaliinjjonlmaa", sum := "2e2070a379c9141485acab806f80656af1eb16ed97767be818091a417510a335", func := "leakresponse/leakresponselaw42.LedgerLearns", spec := "ledgerLearns", unfollowed := true, recurses := true, apart := false }
def LedgerLearnsSaid : Prop := ledgerLearnsRow.holds Try.pinned (OpenSpec.ofChange ledgerLearnsSpec)

/-- ITS FALSE NEIGHBOUR: 'it returns false'. Refute it at one input. -/
def ledgerLearnsWrong : ChangeSpec := { name := "ledgerLearns", fn := fun _ => fun
  | [d] => { results := [.lit (.bool false)], args := [d] }
  | _ => none }
def LedgerLearnsWrongFalsely : Prop := ledgerLearnsRow.holds Try.pinned (OpenSpec.ofChange ledgerLearnsWrong)

/-- 'leakresponselaw42.LedgerApart': WHATEVER THE INPUT: true; the input reads as it did. -/
def ledgerApartSpec : ChangeSpec := { name := "ledgerApart", fn := fun _ => fun
  | [d] => { results := [.lit (.bool true)], args := [d] }
  | _ => none }
def ledgerApartRow : OpenClaim := { program := "ytgaliinjjonlmaa", sum := "2e2070a379c9141485acab806f80656af1eb16ed97767be818091a417510a335", func := "leakresponse/leakresponselaw42.LedgerApart", spec := "ledgerApart", unfollowed := true, recurses := true, apart := false }
def LedgerApartSaid : Prop := ledgerApartRow.holds Try.pinned (OpenSpec.ofChange ledgerApartSpec)

/-- ITS FALSE NEIGHBOUR: 'it returns false'. Refute it at one input. -/
def ledgerApartWrong : ChangeSpec := { name := "ledgerApart", fn := fun _ => fun
  | [d] => { results := [.lit (.bool false)], args := [d] }
  | _ => none }
def LedgerApartWrongFalsely : Prop := ledgerApartRow.holds Try.pinned (OpenSpec.ofChange ledgerApartWrong)

/- THE SECOND FORM. 'bulk': how many values and letters a reading holds, each counted each time it is reached (what is shared counts as often as it is met; a slice's spare places count too). A statement '..UptoSaid' is the law's where the arguments, and the package variables that the reading takes, are together of bulk at most 1048576: NARROWER than '..Said'. Prove '..Said' where nothing that the law and all that it calls make is longer than what came in: it says more and counts as full. Else prove '..UptoSaid'. A law counts once. -/
mutual
def uptoBulk {H : Type} : DataW H → Nat
  | .lit (.string bytes) => bytes.length + 1
  | .lit _ => 1
  | .nil => 1
  | .ptr d => uptoBulk d + 1
  | .slice elems spare => uptoBulkAll elems + uptoBulkAll spare + 1
  | .agg parts => uptoBulkAll parts + 1
  | .iface _ d => uptoBulk d + 1
  | .map entries => uptoBulkEntries entries + 1
  | .held _ => 1
def uptoBulkAll {H : Type} : List (DataW H) → Nat
  | [] => 0
  | d :: r => uptoBulk d + uptoBulkAll r
def uptoBulkEntries {H : Type} : List (Lit × DataW H) → Nat
  | [] => 0
  | x :: r => uptoBulkEntry x + uptoBulkEntries r
def uptoBulkEntry {H : Type} : Lit × DataW H → Nat
  | (.string bytes, d) => bytes.length + uptoBulk d + 1
  | (_, d) => uptoBulk d + 1
 end
def uptoSmall : (H : Type) → List (DataW H) → Bool := fun _ ds => decide (uptoBulkAll ds ≤ 1048576)
def OpenSpec.upto (s : _root_.Go.ChangeSpec) : _root_.Go.OpenSpec := { _root_.Go.OpenSpec.ofChange s with cond := some uptoSmall }

/-- 'leakresponselaw12.DeltaApplies', WHERE WHAT IT READS IS OF BULK AT MOST 1048576: true; the input reads as it did. -/
def deltaAppliesUptoRow : OpenClaim := { program := "ytgaliinjjonlmaa", sum := "2e2070a379c9141485acab806f80656af1eb16ed97767be818091a417510a335", func := "leakresponse/leakresponselaw12.DeltaApplies", spec := "deltaApplies", unfollowed := true, recurses := true, apart := false, narrowed := true }
def DeltaAppliesUptoSaid : Prop := deltaAppliesUptoRow.holds Try.pinned (OpenSpec.upto deltaAppliesSpec)

/-- 'leakresponselaw12.DeltaMakes', WHERE WHAT IT READS IS OF BULK AT MOST 1048576: true; the input reads as it did. -/
def deltaMakesUptoRow : OpenClaim := { program := "ytgaliinjjonlmaa", sum := "2e2070a379c9141485acab806f80656af1eb16ed97767be818091a417510a335", func := "leakresponse/leakresponselaw12.DeltaMakes", spec := "deltaMakes", unfollowed := true, recurses := true, apart := false, narrowed := true }
def DeltaMakesUptoSaid : Prop := deltaMakesUptoRow.holds Try.pinned (OpenSpec.upto deltaMakesSpec)

/-- 'leakresponselaw12.DeltaFormats', WHERE WHAT IT READS IS OF BULK AT MOST 1048576: true; the input reads as it did. -/
def deltaFormatsUptoRow : OpenClaim := { program := "ytgaliinjjonlmaa", sum := "2e2070a379c9141485acab806f80656af1eb16ed97767be818091a417510a335", func := "leakresponse/leakresponselaw12.DeltaFormats", spec := "deltaFormats", unfollowed := true, recurses := true, apart := false, narrowed := true }
def DeltaFormatsUptoSaid : Prop := deltaFormatsUptoRow.holds Try.pinned (OpenSpec.upto deltaFormatsSpec)

/-- 'leakresponselaw12.DeltaParses', WHERE WHAT IT READS IS OF BULK AT MOST 1048576: true; the input reads as it did. -/
def deltaParsesUptoRow : OpenClaim := { program := "ytgaliinjjonlmaa", sum := "2e2070a379c9141485acab806f80656af1eb16ed97767be818091a417510a335", func := "leakresponse/leakresponselaw12.DeltaParses", spec := "deltaParses", unfollowed := true, recurses := true, apart := false, narrowed := true }
def DeltaParsesUptoSaid : Prop := deltaParsesUptoRow.holds Try.pinned (OpenSpec.upto deltaParsesSpec)

/-- 'leakresponselaw12.DeltaBack', WHERE WHAT IT READS IS OF BULK AT MOST 1048576: true; the input reads as it did. -/
def deltaBackUptoRow : OpenClaim := { program := "ytgaliinjjonlmaa", sum := "2e2070a379c9141485acab806f80656af1eb16ed97767be818091a417510a335", func := "leakresponse/leakresponselaw12.DeltaBack", spec := "deltaBack", unfollowed := true, recurses := true, apart := false, narrowed := true }
def DeltaBackUptoSaid : Prop := deltaBackUptoRow.holds Try.pinned (OpenSpec.upto deltaBackSpec)

/-- 'leakresponselaw12.DeltaChains', WHERE WHAT IT READS IS OF BULK AT MOST 1048576: true; the input reads as it did. -/
def deltaChainsUptoRow : OpenClaim := { program := "ytgaliinjjonlmaa", sum := "2e2070a379c9141485acab806f80656af1eb16ed97767be818091a417510a335", func := "leakresponse/leakresponselaw12.DeltaChains", spec := "deltaChains", unfollowed := true, recurses := true, apart := false, narrowed := true }
def DeltaChainsUptoSaid : Prop := deltaChainsUptoRow.holds Try.pinned (OpenSpec.upto deltaChainsSpec)

/-- 'leakresponselaw12.DeltaWhole', WHERE WHAT IT READS IS OF BULK AT MOST 1048576: true; the input reads as it did. -/
def deltaWholeUptoRow : OpenClaim := { program := "ytgaliinjjonlmaa", sum := "2e2070a379c9141485acab806f80656af1eb16ed97767be818091a417510a335", func := "leakresponse/leakresponselaw12.DeltaWhole", spec := "deltaWhole", unfollowed := true, recurses := true, apart := false, narrowed := true }
def DeltaWholeUptoSaid : Prop := deltaWholeUptoRow.holds Try.pinned (OpenSpec.upto deltaWholeSpec)

/-- 'leakresponselaw42.LedgerExact', WHERE WHAT IT READS IS OF BULK AT MOST 1048576: true; the input reads as it did. -/
def ledgerExactUptoRow : OpenClaim := { program := "ytgaliinjjonlmaa", sum := "2e2070a379c9141485acab806f80656af1eb16ed97767be818091a417510a335", func := "leakresponse/leakresponselaw42.LedgerExact", spec := "ledgerExact", unfollowed := true, recurses := true, apart := false, narrowed := true }
def LedgerExactUptoSaid : Prop := ledgerExactUptoRow.holds Try.pinned (OpenSpec.upto ledgerExactSpec)

/-- 'leakresponselaw42.LedgerPast', WHERE WHAT IT READS IS OF BULK AT MOST 1048576: true; the input reads as it did. -/
def ledgerPastUptoRow : OpenClaim := { program := "ytgaliinjjonlmaa", sum := "2e2070a379c9141485acab806f80656af1eb16ed97767be818091a417510a335", func := "leakresponse/leakresponselaw42.LedgerPast", spec := "ledgerPast", unfollowed := true, recurses := true, apart := false, narrowed := true }
def LedgerPastUptoSaid : Prop := ledgerPastUptoRow.holds Try.pinned (OpenSpec.upto ledgerPastSpec)

/-- 'leakresponselaw42.LedgerLine', WHERE WHAT IT READS IS OF BULK AT MOST 1048576: true; the input reads as it did. -/
def ledgerLineUptoRow : OpenClaim := { program := "ytgaliinjjonlmaa", sum := "2e2070a379c9141485acab806f80656af1eb16ed97767be818091a417510a335", func := "leakresponse/leakresponselaw42.LedgerLine", spec := "ledgerLine", unfollowed := true, recurses := true, apart := false, narrowed := true }
def LedgerLineUptoSaid : Prop := ledgerLineUptoRow.holds Try.pinned (OpenSpec.upto ledgerLineSpec)

/-- 'leakresponselaw42.LedgerLearns', WHERE WHAT IT READS IS OF BULK AT MOST 1048576: true; the input reads as it did. -/
def ledgerLearnsUptoRow : OpenClaim := { program := "ytgaliinjjonlmaa", sum := "2e2070a379c9141485acab806f80656af1eb16ed97767be818091a417510a335", func := "leakresponse/leakresponselaw42.LedgerLearns", spec := "ledgerLearns", unfollowed := true, recurses := true, apart := false, narrowed := true }
def LedgerLearnsUptoSaid : Prop := ledgerLearnsUptoRow.holds Try.pinned (OpenSpec.upto ledgerLearnsSpec)

/-- 'leakresponselaw42.LedgerApart', WHERE WHAT IT READS IS OF BULK AT MOST 1048576: true; the input reads as it did. -/
def ledgerApartUptoRow : OpenClaim := { program := "ytgaliinjjonlmaa", sum := "2e2070a379c9141485acab806f80656af1eb16ed97767be818091a417510a335", func := "leakresponse/leakresponselaw42.LedgerApart", spec := "ledgerApart", unfollowed := true, recurses := true, apart := false, narrowed := true }
def LedgerApartUptoSaid : Prop := ledgerApartUptoRow.holds Try.pinned (OpenSpec.upto ledgerApartSpec)

end Rows
end Go.Proofs.Ytgaliinjjonlmaa
