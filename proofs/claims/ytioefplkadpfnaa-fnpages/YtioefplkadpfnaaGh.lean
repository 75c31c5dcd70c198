/- getHighFirst and floatWithBits of the program; what is read of bytes. -/
import Derived.Test.YtioefplkadpfnaaKdr
import Derived.Test.YtioefplkadpfnaaCli
namespace Go.Proofs.Ytioefplkadpfnaa
open Go.RowKit

theorem fbits_same {b y : Nat} (h1 : isN b = false → y = b) (h2 : isN b = isN y) : fbits y = fbits b := by
  unfold fbits
  by_cases hn : isN b = true
  · rw [if_pos hn, if_pos (by rw [← h2]; exact hn)]
  · have hn' : isN b = false := by simpa using hn
    rw [h1 hn']

theorem fbits_u64 (b : Nat) : (((fbits b : Nat) : Int) == (b : Int)) = decide (fbits b = b) := by
  by_cases h : fbits b = b
  · rw [h]; simp
  · rw [decide_eq_false h]; simp only [beq_eq_false_iff_ne]; omega

/-- What a rank tells, and what bits tell. -/
def unfK (k : Nat) : Option Nat := if frank (back k) = k then some (back k) else none
def unfV (b : Nat) : Option Nat := if fbits b = b then some b else none

/-- A function that turns numbers into floats. -/
def Dec (fn : Nat) (d : Nat → Option Nat) : Prop := ∀ (x : Nat) (w : World), x < 18446744073709551616 → Calls Try.prog fn #[.int .u64 x] w fun e w' => ∃ (y : Nat) (ok : Bool), e = .returned (.tuple #[.float .f64 y, .bool ok]) ∧ y < 18446744073709551616 ∧ Hid (d x = if ok = true then some y else none) ∧ w' = w

end Go.Proofs.Ytioefplkadpfnaa
