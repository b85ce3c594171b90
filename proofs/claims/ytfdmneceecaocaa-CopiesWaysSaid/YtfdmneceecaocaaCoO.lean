import Derived.Test.YtfdmneceecaocaaCoN
import Derived.Test.YtfdmneceecaocaaCoI
namespace Go.Proofs.Ytfdmneceecaocaa.Di
open Go.RowKit
open Go.Proofs.Ytfdmneceecaocaa.Tp
set_option linter.unusedVariables false

theorem awake29_any (w : World) : Calls Try.prog 32 #[] w fun e w' => e = .returned (.bool true) ∧ Below w.heap.size w w' :=
  awake29_of (fun v w h => valid_yes exC v w h exC_ok) w

end Go.Proofs.Ytfdmneceecaocaa.Di
