/- The contracts of the laws' helpers over slices of byte slices: toByteSS, eqByteSS, szByteS, szByteSS, markByteSS, heldByteSS; such a slice that came in, read. Conditions: lists of at most 2^21 bytes together where memory is made or counted. -/
import Derived.Test.YtnbpblephmjfnaaJt
import Derived.Test.YtnbpblephmjfnaaMga
import Derived.Deep.RegionHeld3
import Derived.Laws.Tables
import Derived.Deep.SlicePairs
import Derived.Deep.Matrix
import Derived.Lib.SmallJoins
namespace Go.Proofs.Ytnbpblephmjfnaa
open Go.RowKit Go.ChangeShapes Go.WideShapes Go.Deep
set_option maxRecDepth 100000
theorem ReadsS.own {w : World} {lo lo' hi : Nat} {vS : Value} {ss : List (List Int)} {xs : List Value} (o : w.ownsRow lo 23 1 vS ss.length xs) (hB : Bands w lo' hi xs ss) : ∃ a c, vS = .slice a ss.length c ∧ ReadsS w a ss := by
 rcases o.2 with ⟨rfl, h0⟩ | ⟨g, cap, cur, rfl, _⟩
 · exact ⟨none, 0, by rw [h0], ⟨.inl h0⟩⟩
 · refine ⟨_, cap, rfl, ⟨.inr ⟨g, 0, rfl, fun i hi => ⟨xs.getD i nilS, ?_, hB.row i⟩⟩⟩⟩
   rw [Nat.zero_add, o.cellAt i (by omega), List.getD_eq_getElem?_getD]
   have hl := hB.len
   rw [List.getElem?_eq_getElem (by omega)]
   rfl
section
variable {H : Type} {enc : TypeId × Value → H} {w : World} {base : Nat} {held : Bool}
end
end Go.Proofs.Ytnbpblephmjfnaa
