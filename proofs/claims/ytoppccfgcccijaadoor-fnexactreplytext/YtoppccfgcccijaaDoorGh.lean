/- getHighFirst and floatWithBits of the program; what is read of bytes. -/
import Derived.Test.YtoppccfgcccijaaDoorKdr
import Derived.Test.YtoppccfgcccijaaDoorCli
namespace Go.Proofs.YtoppccfgcccijaaDoor
open Go.RowKit

set_option maxRecDepth 100000 in
set_option maxHeartbeats 1600000 in
theorem impl_getHigh {ad : Option Addr} {n : Nat} (cap : Nat) {zs : List Int} {w : World} (h : Reads w ad n zs) (hn : n = 8) :
    Calls Tryd.prog 70 #[.slice ad n cap] w fun e w' => e = .returned (.tuple #[.int .u64 (low zs : Int), .bool true]) ∧ w' = w := by
  have hl := h.len
  subst hn
  go_enter Tryd.func70, Tryd.ntmps70
  go_wp2
  go_loopw [4, 12] (fun s i wr => ∃ k x : Nat, k ≤ 8 ∧ s = .int .u64 (x : Int) ∧ i = .int .i64 k ∧ x < 18446744073709551616 ∧ Hid (x = low (zs.take k)) ∧ wr = w) (fun _ i _ => 8 - (intOf i).toNat)
  case atStart => exact ⟨0, 0, Nat.zero_le _, rfl, rfl, by omega, hid (by rw [List.take_zero]; rfl), rfl⟩
  case round =>
    obtain ⟨k, x, hk, rfl, rfl, hx, HX, rfl⟩ := hrel
    by_cases hlt : k < 8
    · rcases h.cells with h0 | ⟨b, off, rfl, hc⟩
      · omega
      have c1 := hc k hlt
      have hb := h.bd k
      have HS := hid (low_step zs k (by omega))
      obtain ⟨y, hy⟩ := Int.eq_ofNat_of_zero_le hb.1
      have HY := hid hy
      rw [hy] at c1 hb
      have ho := or_shl x y (by omega)
      have hlt' : (k : Int) < 8 := by omega
      have hk0 : (0 : Int) ≤ (k : Int) := by omega
      have hxx : (x * 256 + y) % 18446744073709551616 < 18446744073709551616 := Nat.mod_lt _ (by omega)
      obtain ⟨q, hq⟩ : ∃ q, Hid ((x * 256 + y) % 18446744073709551616 = q) := ⟨_, rfl⟩
      have hq' := hq.out
      rw [hq'] at ho hxx
      clear hc hy hq'
      go_wp2
      go_roundw
      case rel => exact ⟨k + 1, q, by omega, rfl, by go_num, hxx, hid (by rw [HS.out, ← HX.out, HY.out, Int.toNat_natCast, hq.out]), by first | trivial | rfl⟩
      case measure => simp [intOf]; omega
    · have hk8 : k = 8 := by omega
      subst hk8
      have HE := hid (show x = low zs by rw [HX.out, List.take_of_length_le (by omega)])
      go_wp2
      go_ret2
      exact ⟨by rw [HE.out]; rfl, rfl⟩

set_option maxRecDepth 100000 in
theorem impl_getHigh_no (ad : Option Addr) (n cap : Nat) (hn : n ≠ 8) (w : World) :
    Calls Tryd.prog 70 #[.slice ad n cap] w fun e w' => e = .returned (.tuple #[.int .u64 0, .bool false]) ∧ w' = w := by
  have q : ((n : Int) != 8) = true := by simp only [bne_iff_ne]; omega
  go_enter Tryd.func70, Tryd.ntmps70
  go_wp2
  go_ret2
  exact ⟨rfl, rfl⟩

theorem fbits_same {b y : Nat} (h1 : isN b = false → y = b) (h2 : isN b = isN y) : fbits y = fbits b := by
  unfold fbits
  by_cases hn : isN b = true
  · rw [if_pos hn, if_pos (by rw [← h2]; exact hn)]
  · have hn' : isN b = false := by simpa using hn
    rw [h1 hn']

theorem fbits_u64 (b : Nat) : (((fbits b : Nat) : Int) == (b : Int)) = decide (fbits b = b) := by
  by_cases h : fbits b = b
  · rw [h]; simp
  · rw [decide_eq_false h]; simp only [beq_eq_false_iff_ne]; omega

/-- What a rank tells, and what bits tell. -/
def unfK (k : Nat) : Option Nat := if frank (back k) = k then some (back k) else none
def unfV (b : Nat) : Option Nat := if fbits b = b then some b else none

/-- A function that turns numbers into floats. -/
def Dec (fn : Nat) (d : Nat → Option Nat) : Prop := ∀ (x : Nat) (w : World), x < 18446744073709551616 → Calls Tryd.prog fn #[.int .u64 x] w fun e w' => ∃ (y : Nat) (ok : Bool), e = .returned (.tuple #[.float .f64 y, .bool ok]) ∧ y < 18446744073709551616 ∧ Hid (d x = if ok = true then some y else none) ∧ w' = w

end Go.Proofs.YtoppccfgcccijaaDoor
