/-
  DERIVED. GIVEN WITH THE SEED: THE CARDS: each row of YthofhljbipkiaaaDoorRows.lean that lists a variable, with what it lists TIED to the program's text (the seventh form; the later family's looks); each row that meets fmt, with fmt's text TOLD by the authors' own Lean function (tested against real Go, not proved from fmt's source: count such statements apart). THE CARD IS WHAT COUNTS. Prove the row's statement (the work); the ties are given (YthofhljbipkiaaaDoorTie.lean); close each card by the builder's one call (the guide's Derived/Test/ToyasCard.lean, 'card_holds'). Laid BY PROGRAM, IN A SANDBOX (cutbox-door.mjs). By AI agents, Wed Nov 11 2026. No macro, syntax, notation, axiom, sorry.
-/
import Derived.Test.YthofhljbipkiaaaDoorRows
import GoSem.ClaimSeven
namespace Go.Proofs.YthofhljbipkiaaaDoor
namespace Rows

/-- THE TIED CARD OF 'leakresponselaw03.ChecksumHolds'. -/
def checksumHoldsCard : Claim7 := { stood := { row := checksumHoldsRow, standIns := [], harness := (true, "4935cba83d4df52bd0d5a43570ed45bb14e30fd3ba9468868efeb6f4e4a7b30a"), looks := false }, kinds := [], alts := [], laidByText := true, laidKinds := [.data, .data, .data], laidTests := true, laidLooks := .later }
def ChecksumHoldsCardSaid : Prop := Claim7.holds Tryd.pinned (.plain (OpenSpec.ofChange checksumHoldsSpec)) checksumHoldsCard

/-- THE TIED CARD OF 'leakresponselaw03.ChecksumCompletes'. -/
def checksumCompletesCard : Claim7 := { stood := { row := checksumCompletesRow, standIns := [], harness := (true, "4935cba83d4df52bd0d5a43570ed45bb14e30fd3ba9468868efeb6f4e4a7b30a"), looks := false }, kinds := [], alts := [], laidByText := true, laidKinds := [.data, .data, .data], laidTests := true, laidLooks := .later }
def ChecksumCompletesCardSaid : Prop := Claim7.holds Tryd.pinned (.plain (OpenSpec.ofChange checksumCompletesSpec)) checksumCompletesCard

/-- THE TIED CARD OF 'leakresponselaw03.ChecksumBack'. -/
def checksumBackCard : Claim7 := { stood := { row := checksumBackRow, standIns := [], harness := (true, "4935cba83d4df52bd0d5a43570ed45bb14e30fd3ba9468868efeb6f4e4a7b30a"), looks := false }, kinds := [], alts := [], laidByText := true, laidKinds := [.data, .data, .data], laidTests := true, laidLooks := .later }
def ChecksumBackCardSaid : Prop := Claim7.holds Tryd.pinned (.plain (OpenSpec.ofChange checksumBackSpec)) checksumBackCard

/-- THE TIED CARD OF 'leakresponselaw03.ChecksumTells'. -/
def checksumTellsCard : Claim7 := { stood := { row := checksumTellsRow, standIns := [], harness := (true, "4935cba83d4df52bd0d5a43570ed45bb14e30fd3ba9468868efeb6f4e4a7b30a"), looks := false }, kinds := [], alts := [], laidByText := true, laidKinds := [.data, .data, .data], laidTests := true, laidLooks := .later }
def ChecksumTellsCardSaid : Prop := Claim7.holds Tryd.pinned (.plain (OpenSpec.ofChange checksumTellsSpec)) checksumTellsCard

/-- THE TIED CARD OF 'leakresponselaw03.ChecksumLetters'. -/
def checksumLettersCard : Claim7 := { stood := { row := checksumLettersRow, standIns := [], harness := (true, "4935cba83d4df52bd0d5a43570ed45bb14e30fd3ba9468868efeb6f4e4a7b30a"), looks := false }, kinds := [], alts := [], laidByText := true, laidKinds := [.data, .data, .data], laidTests := true, laidLooks := .later }
def ChecksumLettersCardSaid : Prop := Claim7.holds Tryd.pinned (.plain (OpenSpec.ofChange checksumLettersSpec)) checksumLettersCard

/-- THE SECOND FORM's CARD OF 'leakresponselaw03.ChecksumHolds'. -/
def checksumHoldsUptoCard : Claim7 := { stood := { row := checksumHoldsUptoRow, standIns := [], harness := (true, "4935cba83d4df52bd0d5a43570ed45bb14e30fd3ba9468868efeb6f4e4a7b30a"), looks := false }, kinds := [], alts := [], laidByText := true, laidKinds := [.data, .data, .data], laidTests := true, laidLooks := .later }
def ChecksumHoldsUptoCardSaid : Prop := Claim7.holds Tryd.pinned (.plain (OpenSpec.upto checksumHoldsSpec)) checksumHoldsUptoCard

/-- THE SECOND FORM's CARD OF 'leakresponselaw03.ChecksumCompletes'. -/
def checksumCompletesUptoCard : Claim7 := { stood := { row := checksumCompletesUptoRow, standIns := [], harness := (true, "4935cba83d4df52bd0d5a43570ed45bb14e30fd3ba9468868efeb6f4e4a7b30a"), looks := false }, kinds := [], alts := [], laidByText := true, laidKinds := [.data, .data, .data], laidTests := true, laidLooks := .later }
def ChecksumCompletesUptoCardSaid : Prop := Claim7.holds Tryd.pinned (.plain (OpenSpec.upto checksumCompletesSpec)) checksumCompletesUptoCard

/-- THE SECOND FORM's CARD OF 'leakresponselaw03.ChecksumBack'. -/
def checksumBackUptoCard : Claim7 := { stood := { row := checksumBackUptoRow, standIns := [], harness := (true, "4935cba83d4df52bd0d5a43570ed45bb14e30fd3ba9468868efeb6f4e4a7b30a"), looks := false }, kinds := [], alts := [], laidByText := true, laidKinds := [.data, .data, .data], laidTests := true, laidLooks := .later }
def ChecksumBackUptoCardSaid : Prop := Claim7.holds Tryd.pinned (.plain (OpenSpec.upto checksumBackSpec)) checksumBackUptoCard

/-- THE SECOND FORM's CARD OF 'leakresponselaw03.ChecksumTells'. -/
def checksumTellsUptoCard : Claim7 := { stood := { row := checksumTellsUptoRow, standIns := [], harness := (true, "4935cba83d4df52bd0d5a43570ed45bb14e30fd3ba9468868efeb6f4e4a7b30a"), looks := false }, kinds := [], alts := [], laidByText := true, laidKinds := [.data, .data, .data], laidTests := true, laidLooks := .later }
def ChecksumTellsUptoCardSaid : Prop := Claim7.holds Tryd.pinned (.plain (OpenSpec.upto checksumTellsSpec)) checksumTellsUptoCard

/-- THE SECOND FORM's CARD OF 'leakresponselaw03.ChecksumLetters'. -/
def checksumLettersUptoCard : Claim7 := { stood := { row := checksumLettersUptoRow, standIns := [], harness := (true, "4935cba83d4df52bd0d5a43570ed45bb14e30fd3ba9468868efeb6f4e4a7b30a"), looks := false }, kinds := [], alts := [], laidByText := true, laidKinds := [.data, .data, .data], laidTests := true, laidLooks := .later }
def ChecksumLettersUptoCardSaid : Prop := Claim7.holds Tryd.pinned (.plain (OpenSpec.upto checksumLettersSpec)) checksumLettersUptoCard
end Rows
end Go.Proofs.YthofhljbipkiaaaDoor
