/- The contracts of GetNum, the specification's and the program's: both answer 'numOf', 'numOk' of what is read, and leave memory as it was. For every argument. -/
import Derived.Test.YtdlddgejpcbofaaHelp
import Derived.Test.YtdlddgejpcbofaaVal
import Derived.WalkLawsBesides
import Derived.Laws.BitsAllLaws
namespace Go.Proofs.Ytdlddgejpcbofaa
set_option maxRecDepth 100000
open Go.RowKit

theorem or_byte (V x : Int) (h0 : 0 ≤ V) (h1 : V ≤ 72057594037927935) (h2 : 0 ≤ x) (h3 : x ≤ 255) : bits .or .u64 (V * 256) x = V * 256 + x := by
  obtain ⟨v, rfl⟩ := Int.eq_ofNat_of_zero_le h0
  obtain ⟨y, rfl⟩ := Int.eq_ofNat_of_zero_le h2
  rw [u64_or _ _ (by omega) (by omega) (by omega) (by omega)]
  have e : ((v : Int) * 256).toNat = v <<< 8 := by rw [Nat.shiftLeft_eq]; omega
  rw [e, Int.toNat_natCast, ← Nat.shiftLeft_add_eq_or_of_lt (by omega), Nat.shiftLeft_eq]
  omega

theorem from_reads {ad : Option Addr} {n : Nat} {zs : List Int} {w : World} (h : Reads w ad n zs) {at' size : Nat} (h1 : 1 ≤ size) (hl : at' + size ≤ n) :
    ∃ b off, ad = some ⟨b, off, none⟩ ∧ (∀ j, 0 ≤ byteFrom zs at' j ∧ byteFrom zs at' j ≤ 255) ∧ ∀ j, j < size → w.cell? ⟨b, off + (at' + j), none⟩ = some (.int .u8 (byteFrom zs at' j)) := by
  rcases h.cells with h0 | ⟨b, off, rfl, hc⟩
  · omega
  · exact ⟨b, off, rfl, fun j => h.bd (at' + j), fun j hj => hc (at' + j) (by omega)⟩

end Go.Proofs.Ytdlddgejpcbofaa
