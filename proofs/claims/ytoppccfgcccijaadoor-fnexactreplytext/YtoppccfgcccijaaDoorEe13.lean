/- The contracts of the laws' toTrack, szTrack, eqTrack. Conditions: tracks of at most 2^21 bytes, reads and writes together. -/
import Derived.Test.YtoppccfgcccijaaDoorEd13
namespace Go.Proofs.YtoppccfgcccijaaDoor
open Go.RowKit
set_option maxRecDepth 100000

def szT (t : Tk) : Nat := (t.rs.length + sumI (fl2 t.rs)) + (t.ws.length + sumI t.ws)
theorem grown_set13 (w : World) (b o : Nat) (v : Value) : w.grownBy (w.setCell ⟨b, o, none⟩ v) (some b) := ⟨rfl, rfl, rfl, by rw [set_size]; exact Nat.le_refl _, fun k _ hk => heap_set_ne w b o k v (fun e => hk (by rw [e]))⟩
theorem blkL_ge {w : World} {lo hi : Nat} {xs : List Value} {ss : List (List Int)} (h : Bands w lo hi xs ss) {b : Nat} (hb : blkL xs b) : lo ≤ b ∧ b < hi := by
  obtain ⟨i, hi'⟩ := blk_txt hb
  exact h.inr i b hi'

end Go.Proofs.YtoppccfgcccijaaDoor