/- The contracts of PutNum, the specification's and the program's: both answer the bytes 'putL', in new memory. For every argument. -/
import Derived.Test.YtdlddgejpcbofaaHelp
import Derived.Test.YtdlddgejpcbofaaNum
import Derived.WalkLawsBesides
namespace Go.Proofs.Ytdlddgejpcbofaa
set_option maxRecDepth 100000
open Go.RowKit

theorem set_dig (n k size : Nat) (hk : k < size) : (bys (dig n k) ++ List.replicate (size - k) (Value.int .u8 0)).set k (.int .u8 ((sh n k : Int) % 256)) = bys (dig n (k + 1)) ++ List.replicate (size - (k + 1)) (Value.int .u8 0) := by
  rw [List.set_append_right _ _ (by simp [bys, dig_length])]
  obtain ⟨m, hm⟩ : ∃ m, size - k = m + 1 := ⟨size - k - 1, by omega⟩
  rw [hm, show size - (k + 1) = m by omega, bys_length, dig_length, Nat.sub_self, List.replicate_succ, List.set_cons_zero, dig_succ, bys_append]
  simp [bys]

end Go.Proofs.Ytdlddgejpcbofaa
