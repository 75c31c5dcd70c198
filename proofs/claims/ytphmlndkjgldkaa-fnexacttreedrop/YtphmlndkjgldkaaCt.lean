/- What an item holds, behind an interface: contentOf, and the methods of the kinds. -/
import Derived.Test.YtphmlndkjgldkaaPh
import Derived.Test.YtphmlndkjgldkaaAr
import Derived.Test.YtphmlndkjgldkaaId
namespace Go.Proofs.Ytphmlndkjgldkaa
open Go.RowKit
end Go.Proofs.Ytphmlndkjgldkaa
