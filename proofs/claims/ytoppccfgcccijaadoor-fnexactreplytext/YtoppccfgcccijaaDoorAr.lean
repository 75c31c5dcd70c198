/- An item in a block of its own, and its text. -/
import Derived.Test.YtoppccfgcccijaaDoorMgb
namespace Go.Proofs.YtoppccfgcccijaaDoor
open Go.RowKit

structure Arg (w : World) (g : Nat) (K N : Int) (f : Nat) (ad : Option Addr) (n cap : Nat) (zs : List Int) : Prop where
  box : Box w g K N f ad n cap
  reads : Reads w ad n zs
  lt : g < w.heap.size

theorem Arg.below {w w' : World} {g : Nat} {K N : Int} {f : Nat} {ad : Option Addr} {n cap : Nat} {zs : List Int} (a : Arg w g K N f ad n cap zs) {B : Nat} (h : Below B w w') (hB : w.heap.size ≤ B) : Arg w' g K N f ad n cap zs :=
  ⟨a.box.below h (Nat.lt_of_lt_of_le a.lt hB), a.reads.below h hB, Nat.lt_of_lt_of_le a.lt h.size⟩
theorem Arg.alloc {w : World} {g : Nat} {K N : Int} {f : Nat} {ad : Option Addr} {n cap : Nat} {zs : List Int} (a : Arg w g K N f ad n cap zs) (o : Obj) : Arg (w.alloc o) g K N f ad n cap zs :=
  a.below ((Below.refl w.heap.size w).alloc (Nat.le_refl _) o) (Nat.le_refl _)
theorem Reads.alloc {w : World} {ad : Option Addr} {n : Nat} {zs : List Int} (h : Reads w ad n zs) (o : Obj) : Reads (w.alloc o) ad n zs :=
  h.below ((Below.refl w.heap.size w).alloc (Nat.le_refl _) o) (Nat.le_refl _)
theorem Arg.new {w : World} (K N : Int) (f : Nat) {ad : Option Addr} {n : Nat} (cap : Nat) {zs : List Int} (h : Reads w ad n zs) (t : TypeId) (g : Nat) (hg : g = w.heap.size) : Arg (w.alloc (.cells #[.int .i64 K, .int .i64 N, .float .f64 f, .slice ad n cap] t)) g K N f ad n cap zs := by
  subst hg
  exact ⟨Box.new w K N f ad n cap t, h.alloc _, by rw [alloc_size]; omega⟩

theorem Arg.drewN {w : World} {g : Nat} {K N : Int} {f : Nat} {ad : Option Addr} {n cap : Nat} {zs : List Int} (a : Arg w g K N f ad n cap zs) (k : Nat) : Arg (w.drewN k) g K N f ad n cap zs :=
  a.below ((Still.drewN w k).below w.heap.size) (Nat.le_refl _)

end Go.Proofs.YtoppccfgcccijaaDoor
