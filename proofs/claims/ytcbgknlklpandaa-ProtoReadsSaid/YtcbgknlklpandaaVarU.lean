/- Walks of varint: Row. -/
import Derived.Test.YtcbgknlklpandaaVarT
namespace Go.Proofs.Ytcbgknlklpandaa
open Go.RowKit Go.Sort

end Go.Proofs.Ytcbgknlklpandaa
