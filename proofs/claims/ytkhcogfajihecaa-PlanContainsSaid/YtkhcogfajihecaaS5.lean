/- segment: cut, passage, visit. -/
import Derived.Test.YtkhcogfajihecaaS4
import Derived.Test.YtkhcogfajihecaaSRayM
set_option linter.unusedVariables false
set_option linter.unusedSimpArgs false
namespace Go.Proofs.Ytkhcogfajihecaa
open Go Go.RowKit Hd

end Go.Proofs.Ytkhcogfajihecaa
