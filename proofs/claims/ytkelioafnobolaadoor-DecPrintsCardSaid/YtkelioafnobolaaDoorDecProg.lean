/- What package dec's functions answer: the contracts, together. -/
import Derived.Test.YtkelioafnobolaaDoorDecPrint
namespace Go.Proofs.YtkelioafnobolaaDoor
open Go Go.RowKit
end Go.Proofs.YtkelioafnobolaaDoor
