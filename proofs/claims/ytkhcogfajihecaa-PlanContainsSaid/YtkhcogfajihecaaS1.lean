/- segment: isCoord, validPoint, ValidRect. -/
import Derived.Test.YtkhcogfajihecaaSBase
set_option linter.unusedVariables false
set_option linter.unusedSimpArgs false
namespace Go.Proofs.Ytkhcogfajihecaa
open Go Go.RowKit Hd

end Go.Proofs.Ytkhcogfajihecaa
