/- Bytes as a number, high first: the contract of the specification's l3low. Conditions: texts of at most 2^21 bytes. -/
import Derived.Test.YtggnghnnlemccaaIv
namespace Go.Proofs.Ytggnghnnlemccaa
open Go.RowKit

/-- The number that bytes are, modulo 2^64. -/
def low (zs : List Int) : Nat := zs.foldl (fun x b => (x * 256 + b.toNat) % 18446744073709551616) 0
theorem low_lt : ∀ (zs : List Int) (x : Nat), x < 18446744073709551616 → zs.foldl (fun x b => (x * 256 + b.toNat) % 18446744073709551616) x < 18446744073709551616
  | [], _, h => h
  | b :: zs, x, _ => low_lt zs _ (Nat.mod_lt _ (by omega))
theorem low_step (zs : List Int) (k : Nat) (h : k < zs.length) : low (zs.take (k + 1)) = (low (zs.take k) * 256 + (zs.getD k 0).toNat) % 18446744073709551616 := by
  unfold low
  rw [List.take_add_one, List.getElem?_eq_getElem h, Option.toList_some, List.foldl_append]
  simp [List.getD, h]
theorem or_shl (x b : Nat) (hb : b < 256) : bits .or .u64 (IntKind.u64.wrap ((x : Int) * 256)) (b : Int) = (((x * 256 + b) % 18446744073709551616 : Nat) : Int) := by
  have e : IntKind.u64.wrap ((x : Int) * 256) = ((x * 256 % 18446744073709551616 : Nat) : Int) := by simp [IntKind.wrap, IntKind.bits, IntKind.signed]
  rw [e, u64_or_nat _ _ (Nat.mod_lt _ (by omega)) (by omega), nat_join 8 _ _ (by omega) (by omega)]
  congr 1
  omega

set_option maxRecDepth 100000 in
set_option maxHeartbeats 1600000 in
theorem spec_l3low {ad : Option Addr} {n : Nat} (cap : Nat) {zs : List Int} {w : World} (h : Reads w ad n zs) (hn : n ≤ 2097152) :
    Calls Try.prog 63 #[.slice ad n cap] w fun e w' => e = .returned (.int .u64 (low zs : Int)) ∧ w' = w := by
  have hl := h.len
  go_enter Try.func63, Try.ntmps63
  go_wp2
  go_loopw [3, 4] (fun s i wr => ∃ k x : Nat, k ≤ n ∧ s = .int .u64 (x : Int) ∧ i = .int .i64 k ∧ x < 18446744073709551616 ∧ Hid (x = low (zs.take k)) ∧ wr = w) (fun _ i _ => n - (intOf i).toNat)
  case atStart => exact ⟨0, 0, Nat.zero_le _, rfl, rfl, by omega, hid (by rw [List.take_zero]; rfl), rfl⟩
  case round =>
    obtain ⟨k, x, hk, rfl, rfl, hx, HX, rfl⟩ := hrel
    by_cases hlt : k < n
    · rcases h.cells with h0 | ⟨b, off, rfl, hc⟩
      · omega
      have c1 := hc k hlt
      have hb := h.bd k
      have HS := hid (low_step zs k (by omega))
      obtain ⟨y, hy⟩ := Int.eq_ofNat_of_zero_le hb.1
      have HY := hid hy
      rw [hy] at c1 hb
      have ho := or_shl x y (by omega)
      have hlt' : (k : Int) < (n : Int) := by omega
      have hk0 : (0 : Int) ≤ (k : Int) := by omega
      have hxx : (x * 256 + y) % 18446744073709551616 < 18446744073709551616 := Nat.mod_lt _ (by omega)
      obtain ⟨q, hq⟩ : ∃ q, Hid ((x * 256 + y) % 18446744073709551616 = q) := ⟨_, rfl⟩
      have hq' := hq.out
      rw [hq'] at ho hxx
      clear hc hy hq'
      go_wp2
      go_roundw
      case rel => exact ⟨k + 1, q, by omega, rfl, by go_num, hxx, hid (by rw [HS.out, ← HX.out, HY.out, Int.toNat_natCast, hq.out]), by first | trivial | rfl⟩
      case measure => simp [intOf]; omega
    · have hk8 : k = n := by omega
      have HK := hid hk8
      have hge : ¬ (k : Int) < (n : Int) := by omega
      go_wp2
      go_ret
      exact ⟨by rw [HX.out, HK.out, List.take_of_length_le (by omega)]; rfl, rfl⟩
end Go.Proofs.Ytggnghnnlemccaa
