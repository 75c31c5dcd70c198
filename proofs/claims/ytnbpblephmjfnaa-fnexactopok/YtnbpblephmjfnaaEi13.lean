/- Items, spans and tracks that came in, opened: what they read as. No conditions. -/
import Derived.Test.YtnbpblephmjfnaaEd13
import Derived.Test.YtnbpblephmjfnaaTq
namespace Go.Proofs.Ytnbpblephmjfnaa
open Go.RowKit Go.ChangeShapes Go.WideShapes Go.Deep
set_option maxRecDepth 100000
theorem addr_plain13 {w : World} {a : Addr} {v : Value} (h : w.cell? (a.add 0) = some v) : ∃ b off, a = ⟨b, off, none⟩ := by
 obtain ⟨b, off, spot⟩ := a
 have hspot : spot = none := by simpa [Addr.add] using World.cell?_spot h
 subst hspot
 exact ⟨b, off, rfl⟩
section
variable {H : Type} {enc : TypeId × Value → H} {w : World} {base : Nat} {held : Bool}
theorem im_cells {fuel : Nat} {cs : List Value} {x : DataW H × List MemPlace} (h : DataW.trod enc Try.prog w base (fun _ => true) held fuel 25 cs = some x) :
 ∃ (e : Im) (a : Option Addr) (c : Nat), cs = [.int .i64 e.K, .int .i64 e.N, .float .f64 e.F, .slice a e.Z.length c] ∧ e.Z.length ≤ maxLen ∧ Reads w a e.Z.length e.Z ∧ (a = none → c = 0) ∧ e.F < 18446744073709551616 := by
 obtain ⟨K, N, f, a, n, c, zs, e2, hm2, hr2, hc2, hN2, hF2⟩ := item_cells h
 have hl := hr2.len
 subst hl
 exact ⟨⟨K, N, f, zs⟩, a, c, e2, hm2, hr2, hc2, hF2⟩
end
end Go.Proofs.Ytnbpblephmjfnaa
