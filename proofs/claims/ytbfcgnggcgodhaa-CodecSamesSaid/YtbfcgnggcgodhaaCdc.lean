/- The contracts of package codec's six functions, together. -/
import Derived.Test.YtbfcgnggcgodhaaCdP
import Derived.Test.YtbfcgnggcgodhaaCdU
import Derived.Test.YtbfcgnggcgodhaaCdS
namespace Go.Proofs.Ytbfcgnggcgodhaa
open Go Go.RowKit
end Go.Proofs.Ytbfcgnggcgodhaa
