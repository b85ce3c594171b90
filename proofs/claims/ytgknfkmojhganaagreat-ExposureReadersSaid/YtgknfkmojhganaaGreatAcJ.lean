import Derived.Test.YtgknfkmojhganaaGreatAcF
import Derived.Test.YtgknfkmojhganaaGreatAcH
import Derived.Test.YtgknfkmojhganaaGreatDiG
namespace Go.Proofs.YtgknfkmojhganaaGreat.Di
open Go.RowKit
open Go.Proofs.YtgknfkmojhganaaGreat.Tp
set_option linter.unusedVariables false

end Go.Proofs.YtgknfkmojhganaaGreat.Di
