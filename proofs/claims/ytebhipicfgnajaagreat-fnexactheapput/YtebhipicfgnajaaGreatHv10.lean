/- Copies of numbers and of an item that a law makes: in memory of their own. No statement of its own; no conditions. -/
import Derived.Test.YtebhipicfgnajaaGreatHr10
import Derived.Test.YtebhipicfgnajaaGreatMga
namespace Go.Proofs.YtebhipicfgnajaaGreat
open Go.RowKit
set_option maxRecDepth 100000
section
variable {w w' : World} {lo g nl : Nat} {l : List Int}
end
section
variable {w w' : World} {lo g : Nat} {K N : Int} {f x n : Nat} {Z : List Int}
end
end Go.Proofs.YtebhipicfgnajaaGreat
