/- segment: less, hull, product, overlap, Turn, Gap. -/
import Derived.Test.YtkhcogfajihecaaS1
set_option linter.unusedVariables false
set_option linter.unusedSimpArgs false
namespace Go.Proofs.Ytkhcogfajihecaa
open Go Go.RowKit Hd

end Go.Proofs.Ytkhcogfajihecaa
