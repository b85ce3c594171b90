import Derived.Test.YtgknfkmojhganaaAcF
import Derived.Test.YtgknfkmojhganaaAcH
import Derived.Test.YtgknfkmojhganaaDiG
namespace Go.Proofs.Ytgknfkmojhganaa.Di
open Go.RowKit
open Go.Proofs.Ytgknfkmojhganaa.Tp
set_option linter.unusedVariables false

end Go.Proofs.Ytgknfkmojhganaa.Di
