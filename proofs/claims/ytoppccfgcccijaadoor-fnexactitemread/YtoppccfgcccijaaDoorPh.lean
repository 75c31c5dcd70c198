/- Eight bytes, high first: the program's putHighFirst. -/
import Derived.Test.YtoppccfgcccijaaDoorIt9
import Derived.WalkLawsBesides
namespace Go.Proofs.YtoppccfgcccijaaDoor
open Go.RowKit

/-- What has been written behind k rounds. -/
def hiP (x k : Nat) : List Value := List.replicate (8 - k) (Value.int .u8 0) ++ bys ((hi8 x 8).drop (8 - k))
theorem hiP_step (x k : Nat) (h : k < 8) : (hiP x k).set (7 - k) (.int .u8 (hb x (7 - k))) = hiP x (k + 1) := by
  match k, h with
  | 0, _ => rfl
  | 1, _ => rfl
  | 2, _ => rfl
  | 3, _ => rfl
  | 4, _ => rfl
  | 5, _ => rfl
  | 6, _ => rfl
  | 7, _ => rfl
theorem hiP_cell (x k : Nat) (h : k < 8) : (hiP x k)[7 - k]? = some (.int .u8 0) := by
  match k, h with
  | 0, _ => rfl
  | 1, _ => rfl
  | 2, _ => rfl
  | 3, _ => rfl
  | 4, _ => rfl
  | 5, _ => rfl
  | 6, _ => rfl
  | 7, _ => rfl
theorem hb_sh (x k : Nat) (h : k < 8) : hb x (7 - k) = ((x / 256 ^ k : Nat) : Int) % 256 := by
  unfold hb
  rw [show 7 - (7 - k) = k by omega, Nat.pow_mul]
  show ((x / 256 ^ k % 256 : Nat) : Int) = _
  omega
theorem sh_next (x k : Nat) : x / 256 ^ (k + 1) = x / 256 ^ k / 256 := by
  rw [Nat.pow_succ, Nat.div_div_eq_div_mul]

set_option maxRecDepth 100000 in
set_option maxHeartbeats 1600000 in
theorem impl_putHigh (x : Nat) (hx : x < 18446744073709551616) (w : World) :
    Calls Tryd.prog 61 #[.int .u64 x] w fun e w' => ∃ v, e = .returned v ∧ w'.ownsRow w.heap.size 5 1 v 8 (bys (hi8 x 8)) ∧ Below w.heap.size w w' := by
  obtain ⟨i0, hi, hz0, hz1, hz2⟩ := info_parts Tryd.info5
  go_enter Tryd.func61, Tryd.ntmps61
  go_wp2_with (at_make; refine wpList_make_full _ rfl _ _ 23 rfl w.heap.size 5 i0 (.int .u8 0) 1 Tryd.underlying23 hi hz0 hz1 _ _ _ _ 8 rfl rfl (by omega) (by omega) ?b2 ?b3 (Nat.le_refl _) ?_)
  case b2 => rw [hz2]; omega
  case b3 => unfold maxLen; omega
  intro w0 hown0 hgrow0
  go_wp2
  go_loopw [0, 4, 8] (fun r _ i wr => ∃ k m : Nat, k ≤ 8 ∧ i = .int .i64 k ∧ r = .int .u64 (m : Nat) ∧ Hid (m = x / 256 ^ k) ∧ m < 18446744073709551616 ∧ wr.ownsRow w.heap.size 5 1 (.slice (some ⟨w.heap.size, 0, none⟩) 8 8) 8 (hiP x k) ∧ Below w.heap.size w wr)
    (fun _ _ i _ => 8 - (intOf i).toNat)
  case atStart =>
    refine ⟨0, x, Nat.zero_le _, rfl, rfl, hid (by simp), hx, ?_, (Below.refl _ _).grown hgrow0 (Nat.le_refl _) (fun k h => by cases h)⟩
    rw [toList_madeCells_one] at hown0
    rw [show hiP x 0 = List.replicate 8 (Value.int .u8 0) from rfl]
    exact hown0
  case round =>
    obtain ⟨k, m, hk, rfl, rfl, HM, hm, hown, hnx⟩ := hrel
    by_cases hlt : k < 8
    · have HS := hid (sh_next x k)
      have hcy : wr.cell? ⟨w.heap.size, 7 - k, none⟩ = some (.int .u8 0) := by
        rw [hown.cellAt (7 - k) (by omega), hiP_cell x k hlt]
      have hfr : wr.frozen? ⟨w.heap.size, 7 - k, none⟩ = false := hown.frozenAt (7 - k)
      have R := hown.stored (7 - k) (.int .u8 ((m : Int) % 256))
      rw [show (Value.int .u8 ((m : Int) % 256)) = .int .u8 (hb x (7 - k)) by rw [hb_sh x k hlt, HM.out], hiP_step x k hlt] at R
      rw [show (Value.int .u8 (hb x (7 - k))) = .int .u8 ((m : Int) % 256) by rw [hb_sh x k hlt, HM.out]] at R
      obtain ⟨j, hj⟩ : ∃ j, 7 - k = j := ⟨_, rfl⟩
      have ej : (7 : Int) - (k : Int) = (j : Int) := by omega
      rw [hj] at hcy hfr R
      have hj7 : (j : Int) < 8 := by omega
      have hj0 : (0 : Int) ≤ (j : Int) := by omega
      have R1 := hid R
      have hk0 : (0 : Int) ≤ (k : Int) := by omega
      have hk8 : (k : Int) < 8 := by omega
      clear R hown hj
      go_wp2
      go_roundw
      case rel => exact ⟨k + 1, m / 256, by omega, by go_num, by go_num, hid (by rw [HS.out, ← HM.out]), by omega, R1.out.1, hnx.setCell (Nat.le_refl _) _⟩
      case measure => simp [intOf]; omega
    · obtain rfl : k = 8 := by omega
      have hown' : wr.ownsRow w.heap.size 5 1 (.slice (some ⟨w.heap.size, 0, none⟩) 8 8) 8 (bys (hi8 x 8)) := hown
      have O := hid hown'
      clear hown hown'
      go_wp2
      go_ret
      exact ⟨_, rfl, O.out, hnx⟩
end Go.Proofs.YtoppccfgcccijaaDoor
