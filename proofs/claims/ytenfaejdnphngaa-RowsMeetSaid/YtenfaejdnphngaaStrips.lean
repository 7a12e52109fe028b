/- order.Strips at numbers. -/
import Derived.Test.YtenfaejdnphngaaSearch
namespace Go.Proofs.Ytenfaejdnphngaa
open Go.RowKit Go.Sort

end Go.Proofs.Ytenfaejdnphngaa
