/- Eight bytes, high first: the program's putHighFirst. -/
import Derived.Test.YtnhlfkffllbpiaaIt9
import Derived.WalkLawsBesides
namespace Go.Proofs.Ytnhlfkffllbpiaa
open Go.RowKit

/-- What has been written behind k rounds. -/
def hiP (x k : Nat) : List Value := List.replicate (8 - k) (Value.int .u8 0) ++ bys ((hi8 x 8).drop (8 - k))
theorem hiP_step (x k : Nat) (h : k < 8) : (hiP x k).set (7 - k) (.int .u8 (hb x (7 - k))) = hiP x (k + 1) := by
  match k, h with
  | 0, _ => rfl
  | 1, _ => rfl
  | 2, _ => rfl
  | 3, _ => rfl
  | 4, _ => rfl
  | 5, _ => rfl
  | 6, _ => rfl
  | 7, _ => rfl
theorem hiP_cell (x k : Nat) (h : k < 8) : (hiP x k)[7 - k]? = some (.int .u8 0) := by
  match k, h with
  | 0, _ => rfl
  | 1, _ => rfl
  | 2, _ => rfl
  | 3, _ => rfl
  | 4, _ => rfl
  | 5, _ => rfl
  | 6, _ => rfl
  | 7, _ => rfl
theorem hb_sh (x k : Nat) (h : k < 8) : hb x (7 - k) = ((x / 256 ^ k : Nat) : Int) % 256 := by
  unfold hb
  rw [show 7 - (7 - k) = k by omega, Nat.pow_mul]
  show ((x / 256 ^ k % 256 : Nat) : Int) = _
  omega
theorem sh_next (x k : Nat) : x / 256 ^ (k + 1) = x / 256 ^ k / 256 := by
  rw [Nat.pow_succ, Nat.div_div_eq_div_mul]

end Go.Proofs.Ytnhlfkffllbpiaa
