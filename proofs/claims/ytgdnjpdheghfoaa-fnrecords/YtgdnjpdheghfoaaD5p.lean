/- The contracts of the draws' l1PickInt and l1Size. For codes of at most 2^21 bytes. -/
import Derived.Test.YtgdnjpdheghfoaaRdb
namespace Go.Proofs.Ytgdnjpdheghfoaa
open Go.RowKit

set_option maxRecDepth 100000 in
set_option maxHeartbeats 1600000 in
theorem l1Size (ad : Option Addr) (n cap : Nat) (hn : n ≤ 2097152) (w : World) : Calls Try.prog 54 #[.slice ad n cap, .int .i64 12] w fun e w' => ∃ x : Int, e = .returned (.int .i64 x) ∧ 0 < x ∧ x ≤ 12 ∧ w' = w := by
  have hq : (0 : Int) ≤ (n : Int) / 20 := Int.ediv_nonneg (by omega) (by omega)
  have hq2 : (n : Int) / 20 ≤ 2097152 := by omega
  by_cases h : 12 < 2 + (n : Int) / 20
  · go_enter Try.func54, Try.ntmps54
    go_wp2
    go_ret
    exact ⟨_, rfl, by omega, by omega, rfl⟩
  · go_enter Try.func54, Try.ntmps54
    go_wp2
    go_ret
    exact ⟨_, rfl, by omega, by omega, rfl⟩

set_option maxRecDepth 100000 in
set_option maxHeartbeats 1600000 in
theorem l1PickInt {w : World} {g : Nat} {ad : Option Addr} {n cap : Nat} {zs : List Int} (c : Cur w g ad n cap zs) (hn : n ≤ 2097152) {b m c' : Nat} (hm : 0 < m) (hm' : m ≤ 1000) (hb : b ≠ g) (hc : ∀ i, i < m → ∃ x, w.cell? ⟨b, i, none⟩ = some (.int .i64 x)) :
    Calls Try.prog 84 #[.pointer (some ⟨g, 0, none⟩), .slice (some ⟨b, 0, none⟩) m c'] w fun e w' => ∃ x : Int, e = .returned (.int .i64 x) ∧ Cur w' g ad n cap zs ∧ w.grownBy w' (some g) := by
  have HC := hid hc
  clear hc
  go_enter Try.func84, Try.ntmps84
  go_wp2_with fail
  refine (l1Below c hn (m : Int) (by omega) (by omega)).mono ?_
  rintro e w1 ⟨x, rfl, hx0, hx1, c1, g1⟩
  obtain ⟨x, rfl⟩ := Int.eq_ofNat_of_zero_le hx0
  obtain ⟨y, hy⟩ := HC.out x (by omega)
  have hy' := g1.cell hy (by simpa using hb)
  clear hy
  go_wp2_with fail
  go_ret
  exact ⟨_, rfl, c1, g1⟩
end Go.Proofs.Ytgdnjpdheghfoaa
