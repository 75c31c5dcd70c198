/- A region that draws its order: what stands may become more on the way; what is not wanted is passed by. No statement of its own; no conditions. -/
import Derived.Test.YtnbpblephmjfnaaRk2
namespace Go.Proofs.Ytnbpblephmjfnaa
open Go
section
variable {P : Program} {ops : Array Oper} {Q : Exit → Act → World → Prop} {md : Region.Mode} {S S' : World → Prop} {L : Nat}
end
end Go.Proofs.Ytnbpblephmjfnaa
