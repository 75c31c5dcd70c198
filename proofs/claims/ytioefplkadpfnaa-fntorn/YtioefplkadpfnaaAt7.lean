/- The contract of laws.at. Conditions: a code of at most 2^21 bytes, the first four places. -/
import Derived.Test.YtioefplkadpfnaaPf7
namespace Go.Proofs.Ytioefplkadpfnaa
open Go.RowKit
set_option maxRecDepth 100000

set_option maxHeartbeats 1600000 in
theorem law_at {ad : Option Addr} {nn : Nat} (cap : Nat) {zs : List Int} {w : World} (r : Reads w ad nn zs) (hn : nn ≤ 2097152) (i : Nat) (hi : i < 4) :
    Calls Try.prog 22 #[.slice ad nn cap, .int .i64 (i : Int)] w fun e w' => w' = w ∧ ∃ x : Nat, e = .returned (.int .i64 (x : Int)) := by
  by_cases h : i < nn
  · have h' : (i : Int) < (nn : Int) := by omega
    have h0 : (0 : Int) ≤ (i : Int) := by omega
    have hb := r.bd i
    rcases r.cells with h1 | ⟨b, off, rfl, hc⟩
    · omega
    have hcx := hc i h
    obtain ⟨x, hx⟩ := Int.eq_ofNat_of_zero_le hb.1
    rw [hx] at hcx hb
    have hw : IntKind.i64.wrap (x : Int) = (x : Int) := by simp [IntKind.wrap, IntKind.bits, IntKind.signed]; omega
    clear hc
    go_enter Try.func22, Try.ntmps22
    go_wp2_with fail
    go_ret
    exact ⟨rfl, x, rfl⟩
  · have h' : ¬ (i : Int) < (nn : Int) := by omega
    clear r
    go_enter Try.func22, Try.ntmps22
    go_wp2_with fail
    go_ret
    exact ⟨rfl, (i * 7 + nn) % 256, by simp⟩
end Go.Proofs.Ytioefplkadpfnaa
