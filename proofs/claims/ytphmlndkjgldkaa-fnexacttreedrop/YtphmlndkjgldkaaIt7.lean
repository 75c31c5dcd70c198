/- Eight bytes, high first: the contract of the specification's l3high. No conditions. -/
import Derived.Test.YtphmlndkjgldkaaMga
namespace Go.Proofs.Ytphmlndkjgldkaa
open Go.RowKit
def hb (x j : Nat) : Int := ((x / 2 ^ (8 * (7 - j)) % 256 : Nat) : Int)
end Go.Proofs.Ytphmlndkjgldkaa
