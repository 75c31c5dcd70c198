/- Eight bytes, high first: the contract of the specification's l3high. No conditions. -/
import Derived.Test.YtoppccfgcccijaaDoorIt6
namespace Go.Proofs.YtoppccfgcccijaaDoor
open Go.RowKit

/-- The byte at place j of eight, high first. -/
def hb (x j : Nat) : Int := ((x / 2 ^ (8 * (7 - j)) % 256 : Nat) : Int)
def hi8 (x k : Nat) : List Int := (List.range k).map (hb x)
theorem hi8_succ (x k : Nat) : hi8 x (k + 1) = hi8 x k ++ [hb x k] := by simp [hi8, List.range_succ]
theorem hi8_length (x k : Nat) : (hi8 x k).length = k := by simp [hi8]
theorem hb_bd (x j : Nat) : 0 ≤ hb x j ∧ hb x j ≤ 255 := by unfold hb; omega

theorem shr_eq (x i : Nat) : (x : Int) / 2 ^ (8 * (i : Int)).toNat = ((x / 2 ^ (8 * i) : Nat) : Int) := by
  rw [show (8 * (i : Int)).toNat = 8 * i by omega]
  simp
theorem and_byte (y : Nat) (h : y < 18446744073709551616) : bits .and .u64 (y : Int) 255 = ((y % 256 : Nat) : Int) := by
  have := u64_and_nat y 255 h (by omega)
  rw [nat_mask8] at this
  exact this

set_option maxRecDepth 100000 in
set_option maxHeartbeats 3200000 in
theorem spec_l3high (x : Nat) (hx : x < 18446744073709551616) (w : World) :
    Calls Tryd.prog 29 #[.int .u64 x] w fun e w' => ∃ v, e = .returned v ∧ w'.ownsRow w.heap.size 5 1 v 8 (bys (hi8 x 8)) ∧ Below w.heap.size w w' := by
  obtain ⟨i0, hi, hz0, hz1, hz2⟩ := info_parts Tryd.info5
  go_enter Tryd.func29, Tryd.ntmps29
  go_wp2_with fail
  go_loopw [3, 4] (fun v i wr => ∃ k : Nat, k ≤ 8 ∧ i = .int .i64 (7 - (k : Int)) ∧ wr.ownsRow w.heap.size 5 1 v k (bys (hi8 x k)) ∧ Below w.heap.size w wr) (fun _ i _ => (intOf i + 1).toNat)
  case atStart => exact ⟨0, by omega, rfl, World.ownsRow_nil _ _ _ _, Below.refl _ _⟩
  case round =>
    obtain ⟨k, hk, rfl, hown, hb1⟩ := hrel
    by_cases hlt : k < 8
    · obtain ⟨i, hi7⟩ : ∃ i : Nat, 7 - (k : Int) = (i : Int) := ⟨7 - k, by omega⟩
      have hi0 : (0 : Int) ≤ (i : Int) := by omega
      have hi1 : (i : Int) ≤ 7 := by omega
      have hs := shr_eq x i
      have hlq : x / 2 ^ (8 * i) < 18446744073709551616 := Nat.lt_of_le_of_lt (Nat.div_le_self _ _) hx
      have ha := and_byte (x / 2 ^ (8 * i)) hlq
      have hbx : hb x k = ((x / 2 ^ (8 * i) % 256 : Nat) : Int) := by rw [hb, show 7 - k = i by omega]
      have hy := hb_bd x k
      rw [← hbx] at ha
      have z1 := hb1.size
      have HX := hid hbx
      have EI := hid hi7
      rw [hi7]
      generalize x / 2 ^ (8 * i) = q at *
      obtain ⟨y, HY⟩ : ∃ y, Hid (hb x k = y) := ⟨_, rfl⟩
      have hyy := HY.out
      rw [hyy] at ha hy
      clear hyy
      clear hbx hlq hi7
      go_wp2_with (at_builtin; refine wpList_append_own _ rfl _ _ 23 rfl w.heap.size 5 i0 (.int .u8 0) 1 1 Tryd.underlying23 hi hz0 hz1 hz2 rfl (by decide) _ _ _ rfl (hown.alloc _) ⟨wr.heap.size, 0, none⟩ 1 1 [.int .u8 y] rfl rfl (cell_one_new _ _ _) ?c2 ?c3 ?c4 ?c5 ?_)
      case c2 => intro u hu; simp at hu; subst hu; rfl
      case c3 => unfold maxLen; omega
      case c4 => omega
      case c5 => simp; omega
      intro v' w9 o3 g3 _
      have B9 : Below w.heap.size w w9 := (hb1.alloc z1 _).grown g3 (by simp; omega) (fun r hr => (hown.lt r hr).1)
      have O3 := hid o3
      clear g3 o3 hown hb1
      go_wp2_with fail
      go_roundw
      case rel => exact ⟨k + 1, by omega, by have := EI.out; go_num, by rw [hi8_succ, bys_append, HY.out]; exact O3.out, B9⟩
      case measure => have := EI.out; simp [intOf]
    · have hk8 : k = 8 := by omega
      subst hk8
      go_wp2_with fail
      go_ret
      exact ⟨_, rfl, hown, hb1⟩
end Go.Proofs.YtoppccfgcccijaaDoor
