/- edictlaw08.fit. -/
import Derived.Test.YtjifhmlfnnagcaaEdgeRFit
namespace Go.Proofs.Ytjifhmlfnnagcaa
set_option linter.unusedSimpArgs false
set_option linter.unusedVariables false
open Go.RowKit

end Go.Proofs.Ytjifhmlfnnagcaa
