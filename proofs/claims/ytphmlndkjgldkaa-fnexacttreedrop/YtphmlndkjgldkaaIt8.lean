/- An item as bytes: the contracts of the specification's l3bytes. Conditions: texts of at most 2^21 bytes. -/
import Derived.Test.YtphmlndkjgldkaaIt7
import Derived.Laws.AppendOwnNone
namespace Go.Proofs.Ytphmlndkjgldkaa
open Go.RowKit
end Go.Proofs.Ytphmlndkjgldkaa
