/- An item in a block of its own, and its text. -/
import Derived.Test.YtnbpblephmjfnaaIt9
namespace Go.Proofs.Ytnbpblephmjfnaa
open Go.RowKit
structure Arg (w : World) (g : Nat) (K N : Int) (f : Nat) (ad : Option Addr) (n cap : Nat) (zs : List Int) : Prop where
 box : Box w g K N f ad n cap
 reads : Reads w ad n zs
 lt : g < w.heap.size
theorem Arg.below {w w' : World} {g : Nat} {K N : Int} {f : Nat} {ad : Option Addr} {n cap : Nat} {zs : List Int} (a : Arg w g K N f ad n cap zs) {B : Nat} (h : Below B w w') (hB : w.heap.size ≤ B) : Arg w' g K N f ad n cap zs :=
 ⟨a.box.below h (Nat.lt_of_lt_of_le a.lt hB), a.reads.below h hB, Nat.lt_of_lt_of_le a.lt h.size⟩
theorem Reads.alloc {w : World} {ad : Option Addr} {n : Nat} {zs : List Int} (h : Reads w ad n zs) (o : Obj) : Reads (w.alloc o) ad n zs :=
 h.below ((Below.refl w.heap.size w).alloc (Nat.le_refl _) o) (Nat.le_refl _)
end Go.Proofs.Ytnbpblephmjfnaa
