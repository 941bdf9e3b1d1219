/- Which game is right: the document's answer. -/
import Derived.Test.YtghdjkpndhcplaaDoorCheck
namespace Go.Proofs.YtghdjkpndhcplaaDoor
open Go.RowKit
namespace W

end W
end Go.Proofs.YtghdjkpndhcplaaDoor
