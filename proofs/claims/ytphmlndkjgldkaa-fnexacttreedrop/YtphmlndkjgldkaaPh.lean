/- Eight bytes, high first: the program's putHighFirst. -/
import Derived.Test.YtphmlndkjgldkaaIt9
import Derived.WalkLawsBesides
namespace Go.Proofs.Ytphmlndkjgldkaa
open Go.RowKit
end Go.Proofs.Ytphmlndkjgldkaa
