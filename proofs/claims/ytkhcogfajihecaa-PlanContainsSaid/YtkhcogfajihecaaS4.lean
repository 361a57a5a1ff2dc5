/- segment.cut. -/
import Derived.Test.YtkhcogfajihecaaS3
import Derived.Test.YtkhcogfajihecaaSRay
set_option linter.unusedVariables false
set_option linter.unusedSimpArgs false
namespace Go.Proofs.Ytkhcogfajihecaa
open Go Go.RowKit Hd

end Go.Proofs.Ytkhcogfajihecaa
