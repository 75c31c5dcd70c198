/- The contracts of Crc, the specification's and the program's: both answer 'crcOf' of what is read. For slices of at most 2^21 bytes. -/
import Derived.Test.YtplbejipkaionaaHelp
import Derived.Test.YtplbejipkaionaaSum
import Derived.WalkLawsBesides
import Derived.Laws.Tables
namespace Go.Proofs.Ytplbejipkaionaa
set_option maxRecDepth 100000
open Go.RowKit

theorem and_one (a : Nat) (ha : a < 4294967296) : bits .and .u32 (a : Int) 1 = ((a % 2 : Nat) : Int) := by
  have := u32_and_nat a 1 ha (by omega)
  rw [show ((1 : Nat) : Int) = 1 from rfl] at this
  rw [this, Nat.and_one_is_mod]
theorem st1_odd (a : Nat) (h : a % 2 = 1) : st1 a = a / 2 ^^^ 3988292384 := by unfold st1; rw [if_pos h]
theorem st1_even (a : Nat) (h : ¬ a % 2 = 1) : st1 a = a / 2 := by unfold st1; rw [if_neg h]
theorem xor_u32 (a b : Nat) (ha : a < 4294967296) (hb : b < 4294967296) : bits .xor .u32 (a : Int) (b : Int) = ((a ^^^ b : Nat) : Int) := u32_xor_nat a b ha hb

theorem odd_u32 (y : Nat) (hlt : y < 4294967296) (h : y % 2 = 1) : bits .xor .u32 ((y : Int) / 2) 3988292384 = ((st1 y : Nat) : Int) := by
  rw [st1_odd y h, ← xor_u32 (y / 2) 3988292384 (by omega) (by omega)]
  simp only [Int.natCast_ediv]; rfl
theorem odd_i64 (y : Nat) (hlt : y < 4294967296) (h : y % 2 = 1) : bits .xor .i64 ((y : Int) / 2) 3988292384 = ((st1 y : Nat) : Int) := by
  rw [st1_odd y h, ← i64_xor (y / 2) 3988292384 (by omega) (by omega)]
  simp only [Int.natCast_ediv]; rfl
theorem even_any (y : Nat) (h : ¬ y % 2 = 1) : (y : Int) / 2 = ((st1 y : Nat) : Int) := by
  rw [st1_even y h]; omega
theorem ones_i64 (y : Nat) (hlt : y < 4294967296) : bits .xor .i64 (y : Int) 4294967295 = ((y ^^^ 4294967295 : Nat) : Int) := by
  rw [← i64_xor y 4294967295 hlt (by omega)]; rfl
theorem ones_u32 (y : Nat) (hlt : y < 4294967296) : bits .xor .u32 (y : Int) 4294967295 = ((y ^^^ 4294967295 : Nat) : Int) := by
  rw [← xor_u32 y 4294967295 hlt (by omega)]; rfl
theorem ret_congr {k : IntKind} {a b : Int} (h : a = b) : Ending.returned (.int k a) = .returned (.int k b) := by rw [h]
theorem int_congr {k : IntKind} {a b : Int} (h : a = b) : Value.int k a = .int k b := by rw [h]

set_option maxHeartbeats 1600000 in
theorem eightSteps (x : Nat) (w : World) (hx : x < 4294967296) :
    Calls Try.prog 40 #[.int .u32 x] w fun e w' => e = .returned (.int .u32 (stN 8 x : Nat)) ∧ w' = w := by
  go_enter Try.func40, Try.ntmps40
  go_wp2
  go_loop [0, 3, 4] (fun s _ i => ∃ k : Nat, k ≤ 8 ∧ i = .int .i64 k ∧ s = .int .u32 (stN k x : Nat)) (fun _ _ i => 8 - (intOf i).toNat)
  case atStart => exact ⟨0, by omega, rfl, by simp [stN]⟩
  case round =>
    obtain ⟨k, hk, rfl, rfl⟩ := hrel
    have hlt := stN_lt k x hx
    have hs : Hid (stN (k + 1) x = st1 (stN k x)) := by unfold Hid; rw [stN]
    generalize hy0 : stN k x = y at hlt hs
    have hy := hid hy0
    clear hy0
    by_cases hk8 : k < 8
    · have ha := and_one y hlt
      by_cases hp : y % 2 = 1
      · have hp1 : ((y : Int) % 2 == 1) = true := beq_iff_eq.2 (by omega)
        have e1 := hid (odd_u32 y hlt hp)
        go_wp2
        go_round
        case rel => exact ⟨k + 1, by omega, by go_num, int_congr (by rw [hs.out]; exact e1.out)⟩
        case measure => simp [intOf]; omega
      · have hp1 : ((y : Int) % 2 == 1) = false := beq_eq_false_iff_ne.2 (by omega)
        have e1 := hid (even_any y hp)
        go_wp2
        go_round
        case rel => exact ⟨k + 1, by omega, by go_num, int_congr (by rw [hs.out]; exact e1.out)⟩
        case measure => simp [intOf]; omega
    · go_wp2
      go_ret
      obtain rfl : k = 8 := by omega
      rw [hy.out]
      exact ⟨rfl, rfl⟩

set_option maxHeartbeats 3200000 in
theorem spec_Crc_pos (b off n cap : Nat) (zs : List Int) (w : World) (hn : n ≤ 65536) (hz : zs.length = n) (hbd : ∀ i, 0 ≤ zs.getD i 0 ∧ zs.getD i 0 ≤ 255)
    (hc : ∀ i, i < n → w.cell? ⟨b, off + i, none⟩ = some (.int .u8 (zs.getD i 0))) :
    Calls Try.prog 38 #[.slice (some ⟨b, off, none⟩) n cap] w fun e w' => e = .returned (.int .i64 (crcOf zs)) ∧ w' = w := by
  go_enter Try.func38, Try.ntmps38
  go_wp2
  go_loop [3, 4, 5, 6] (fun s i _ _ => ∃ k : Nat, k ≤ n ∧ i = .int .i64 k ∧ s = .int .i64 (sumTo zs k : Nat)) (fun _ i _ _ => n - (intOf i).toNat)
  case atStart => exact ⟨0, by omega, rfl, by rw [sumTo_zero]; rfl⟩
  case round =>
    obtain ⟨k, hk, rfl, rfl⟩ := hrel
    have hlt := sumTo_lt zs hbd k
    by_cases hkn : k < n
    · have hcell := hc k hkn
      have hb := hbd k
      have hs := hid (sumTo_succ zs k (by omega))
      generalize sumTo zs k = y at hlt hs
      generalize zs.getD k 0 = c at hcell hb hs
      obtain ⟨c, rfl⟩ := Int.eq_ofNat_of_zero_le hb.1
      have hx := i64_xor y c hlt (by omega)
      have hx' := xor_lt32 y c hlt (by omega)
      have hs' : Hid (sumTo zs (k + 1) = stN 8 (y ^^^ c)) := by have := hs.out; unfold stp at this; unfold Hid; simpa using this
      clear hs hc
      generalize y ^^^ c = z at hx hx' hs'
      go_wp2
      go_loop [3, 5, 6] (fun s j _ => ∃ m : Nat, m ≤ 8 ∧ j = .int .i64 m ∧ s = .int .i64 (stN m z : Nat)) (fun _ j _ => 8 - (intOf j).toNat)
      case atStart => exact ⟨0, by omega, rfl, by simp [stN]⟩
      case round =>
        obtain ⟨m, hm, rfl, rfl⟩ := hrel
        have hlt := stN_lt m z hx'
        have hss : Hid (stN (m + 1) z = st1 (stN m z)) := by unfold Hid; rw [stN]
        generalize hu0 : stN m z = u at hlt hss
        have hu := hid hu0
        clear hu0
        by_cases hk8 : m < 8
        · by_cases hp : u % 2 = 1
          · have hp1 : ((u : Int) % 2 == 1) = true := beq_iff_eq.2 (by omega)
            have e1 := hid (odd_i64 u hlt hp)
            go_wp2
            go_round
            case rel => exact ⟨m + 1, by omega, by go_num, int_congr (by rw [hss.out]; exact e1.out)⟩
            case measure => simp [intOf]; omega
          · have hp1 : ((u : Int) % 2 == 1) = false := beq_eq_false_iff_ne.2 (by omega)
            have e1 := hid (even_any u hp)
            go_wp2
            go_round
            case rel => exact ⟨m + 1, by omega, by go_num, int_congr (by rw [hss.out]; exact e1.out)⟩
            case measure => simp [intOf]; omega
        · obtain rfl : m = 8 := by omega
          have hu8 : Hid (sumTo zs (k + 1) = u) := by unfold Hid; rw [hs'.out]; exact hu.out
          clear hss hu hs'
          go_wp2
          go_round
          case rel => exact ⟨k + 1, by omega, by go_num, int_congr (by rw [hu8.out])⟩
          case measure => simp [intOf]; omega
    · obtain rfl : k = n := by omega
      have hx := hid (ones_i64 (sumTo zs k) hlt)
      have hcr : Hid (crcOf zs = ((sumTo zs k ^^^ 4294967295 : Nat) : Int)) := by unfold Hid crcOf; rw [if_neg (by omega), hz]
      generalize sumTo zs k = y at *
      go_wp2
      go_ret
      exact ⟨ret_congr (hx.out.trans hcr.out.symm), rfl⟩
end Go.Proofs.Ytplbejipkaionaa
