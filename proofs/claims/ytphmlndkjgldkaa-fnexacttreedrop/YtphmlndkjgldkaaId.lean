/- The contract of the specification's ItemClean. Conditions: texts of at most 2^21 bytes. -/
import Derived.Test.YtphmlndkjgldkaaIc
namespace Go.Proofs.Ytphmlndkjgldkaa
open Go.RowKit
end Go.Proofs.Ytphmlndkjgldkaa
