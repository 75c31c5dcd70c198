/- What the draws for a disk's write and for a crash answer. No statement of its own; no conditions. -/
import Derived.Test.YtnnnehjlegjejaaDoorDm
import Derived.Test.YtnnnehjlegjejaaDoorBn
namespace Go.Proofs.YtnnnehjlegjejaaDoor
open Go.RowKit

structure AnsW (w : World) (e : Ending) (w' : World) : Prop where
  ex : ∃ aS nS cS aW nW cW F D S W x aD nD cD zs, e = .returned (.tuple #[.agg #[.slice aS nS cS, .slice aW nW cW, .int .i64 F, .bool D], .int .i64 x, .slice aD nD cD]) ∧ S.length = nS ∧ W.length = nW ∧ F ≤ 1000000 ∧ ReadsD w' aS aW S W ∧ Reads w' aD nD zs ∧ nD ≤ 64 ∧ Below w.heap.size w w'
structure AnsC (w : World) (e : Ending) (w' : World) : Prop where
  ex : ∃ aS nS cS aW nW cW F D aK nK cK ks, e = .returned (.tuple #[.agg #[.slice aS nS cS, .slice aW nW cW, .int .i64 F, .bool D], .slice aK nK cK]) ∧ ReadsB w' aK nK ks ∧ nK ≤ 1000 ∧ Below w.heap.size w w'
end Go.Proofs.YtnnnehjlegjejaaDoor
