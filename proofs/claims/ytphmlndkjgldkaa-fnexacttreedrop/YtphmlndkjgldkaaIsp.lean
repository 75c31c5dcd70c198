/- InSpan, the specification's and the program's. -/
import Derived.Test.YtphmlndkjgldkaaIx
import Derived.Test.YtphmlndkjgldkaaAr
namespace Go.Proofs.Ytphmlndkjgldkaa
open Go.RowKit
end Go.Proofs.Ytphmlndkjgldkaa
