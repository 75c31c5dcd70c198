/- Rows of whole numbers, apart from each other. No statement of its own; no conditions. -/
import Derived.Test.YtphmlndkjgldkaaNi
import Derived.Test.YtphmlndkjgldkaaMga
namespace Go.Proofs.Ytphmlndkjgldkaa
open Go.RowKit
set_option maxRecDepth 100000
end Go.Proofs.Ytphmlndkjgldkaa
