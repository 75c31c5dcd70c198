/- An item as bytes: the contracts of the specification's l3bytes. Conditions: texts of at most 2^21 bytes. -/
import Derived.Test.YtioefplkadpfnaaIt7
import Derived.Laws.AppendOwnNone
namespace Go.Proofs.Ytioefplkadpfnaa
open Go.RowKit

theorem xor_top (N : Int) (h0 : -9223372036854775808 ≤ N) (h1 : N ≤ 9223372036854775807) : bits .xor .u64 (IntKind.u64.wrap N) 9223372036854775808 = (((N + 9223372036854775808).toNat : Nat) : Int) := by
  have e : IntKind.u64.wrap N = N % 18446744073709551616 := by simp [IntKind.wrap, IntKind.bits, IntKind.signed]
  rw [e]
  by_cases hN : 0 ≤ N
  · obtain ⟨m, rfl⟩ := Int.eq_ofNat_of_zero_le hN
    rw [show (m : Int) % 18446744073709551616 = (m : Int) by omega]
    have h := u64_xor_nat m 9223372036854775808 (by omega) (by omega)
    have hx : m ^^^ 9223372036854775808 = 9223372036854775808 + m := neg_bits' m (by omega)
    rw [hx] at h
    rw [show ((m : Int) + 9223372036854775808).toNat = 9223372036854775808 + m by omega]
    exact h
  · obtain ⟨m, hm⟩ := Int.eq_ofNat_of_zero_le (show 0 ≤ N + 9223372036854775808 by omega)
    rw [show N % 18446744073709551616 = ((9223372036854775808 + m : Nat) : Int) by omega, hm]
    have h := u64_xor_nat (9223372036854775808 + m) 9223372036854775808 (by omega) (by omega)
    have hx : (9223372036854775808 + m) ^^^ 9223372036854775808 = m := neg_bits m (by omega)
    rw [hx] at h
    exact h

/-- An item's bytes, with these bits of its float. -/
def bytesI (K N : Int) (B : Nat) (zs : List Int) : List Int := [K] ++ (if K = 1 then hi8 (N + 9223372036854775808).toNat 8 else if K = 2 then hi8 B 8 else zs)

theorem hi8_bd (x k : Nat) : ∀ i, 0 ≤ (hi8 x k).getD i 0 ∧ (hi8 x k).getD i 0 ≤ 255 := by
  intro i
  by_cases h : i < k
  · simp only [hi8, List.getD, List.getElem?_map, List.getElem?_range h, Option.map_some, Option.getD_some]
    exact hb_bd x i
  · simp [hi8, List.getD, h]

set_option maxRecDepth 100000 in
set_option maxHeartbeats 3200000 in
theorem spec_l3bytes_float (N : Int) (f : Nat) (ad : Option Addr) (n cap B : Nat) (hB : B < 18446744073709551616) (w : World) :
    Calls Try.prog 92 #[.agg #[.int .i64 2, .int .i64 N, .float .f64 f, .slice ad n cap], .int .u64 B] w fun e w' => ∃ v, e = .returned v ∧ w'.ownsRow w.heap.size 5 1 v 9 (bys ([2] ++ hi8 B 8)) ∧ Below w.heap.size w w' := by
  obtain ⟨i0, hi, hz0, hz1, hz2⟩ := info_parts Try.info5
  have z1 := alloc_size w (.cells #[.int .i64 2, .int .i64 N, .float .f64 f, .slice ad n cap] 63)
  have o5 := World.ownsRow_lit (base := w.heap.size) (e := 5) (size := 1) (w.alloc (.cells #[.int .i64 2, .int .i64 N, .float .f64 f, .slice ad n cap] 63)) #[.int .u8 2] 1 (by omega) (by unfold maxLen; omega) rfl
  have hT := two w (.cells #[.int .i64 2, .int .i64 N, .float .f64 f, .slice ad n cap] 63) (.cells #[.int .u8 2] 5)
  rw [z1] at o5
  have O5 := hid o5
  clear o5 z1
  go_enter Try.func92, Try.ntmps92
  go_wp2_with fail
  generalize (w.alloc (.cells #[.int .i64 2, .int .i64 N, .float .f64 f, .slice ad n cap] 63)).alloc (.cells #[.int .u8 2] 5) = w1 at *
  refine (spec_l3high B hB _).mono ?_
  rintro e w2 ⟨v, rfl, o2, b2⟩
  obtain ⟨ad2, cap2, rfl, r2, d2⟩ := Reads.own o2 (hi8_bd B 8)
  obtain ⟨bL, oL, rfl⟩ := r2.pos (by omega)
  have o6 := owns_below b2 (Nat.le_refl _) O5.out
  have B2 := hT.trans (b2.mono hT.size)
  have R2 := hid r2
  clear o2 d2 r2 b2 O5
  go_wp2_with (at_builtin; refine wpList_append_own _ rfl _ _ 22 rfl w.heap.size 5 i0 (.int .u8 0) 1 1 Try.underlying22 hi hz0 hz1 hz2 rfl (by decide) _ _ _ rfl o6 ⟨bL, oL, none⟩ 8 cap2 (bys (hi8 B 8)) rfl ?k2 R2.out.news (bys_one _) ?k4 ?k5 ?k6 ?_)
  case k2 => rw [bys_length, hi8_length]
  case k4 => unfold maxLen; omega
  case k5 => omega
  case k6 => exact B2.size
  intro v7 w7 o7 g7 _
  have B7 : Below w.heap.size w w7 := B2.grown g7 B2.size (fun k hk => (o6.lt k hk).1)
  have O7 := hid o7
  clear o7 g7 o6
  go_wp2_with fail
  go_ret
  exact ⟨_, rfl, by have := O7.out; simpa [bys] using this, B7⟩
set_option maxRecDepth 100000 in
set_option maxHeartbeats 3200000 in
theorem spec_l3bytes_int (N : Int) (hN0 : -9223372036854775808 ≤ N) (hN1 : N ≤ 9223372036854775807) (f : Nat) (ad : Option Addr) (n cap B : Nat) (w : World) :
    Calls Try.prog 92 #[.agg #[.int .i64 1, .int .i64 N, .float .f64 f, .slice ad n cap], .int .u64 B] w fun e w' => ∃ v, e = .returned v ∧ w'.ownsRow w.heap.size 5 1 v 9 (bys ([1] ++ hi8 (N + 9223372036854775808).toNat 8)) ∧ Below w.heap.size w w' := by
  obtain ⟨i0, hi, hz0, hz1, hz2⟩ := info_parts Try.info5
  have hx := xor_top N hN0 hN1
  have hX : (N + 9223372036854775808).toNat < 18446744073709551616 := by omega
  generalize (N + 9223372036854775808).toNat = X at *
  have z1 := alloc_size w (.cells #[.int .i64 1, .int .i64 N, .float .f64 f, .slice ad n cap] 63)
  have o5 := World.ownsRow_lit (base := w.heap.size) (e := 5) (size := 1) (w.alloc (.cells #[.int .i64 1, .int .i64 N, .float .f64 f, .slice ad n cap] 63)) #[.int .u8 1] 1 (by omega) (by unfold maxLen; omega) rfl
  have hT := two w (.cells #[.int .i64 1, .int .i64 N, .float .f64 f, .slice ad n cap] 63) (.cells #[.int .u8 1] 5)
  rw [z1] at o5
  have O5 := hid o5
  clear o5 z1
  go_enter Try.func92, Try.ntmps92
  go_wp2_with fail
  generalize (w.alloc (.cells #[.int .i64 1, .int .i64 N, .float .f64 f, .slice ad n cap] 63)).alloc (.cells #[.int .u8 1] 5) = w1 at *
  refine (spec_l3high X hX _).mono ?_
  rintro e w2 ⟨v, rfl, o2, b2⟩
  obtain ⟨ad2, cap2, rfl, r2, d2⟩ := Reads.own o2 (hi8_bd X 8)
  obtain ⟨bL, oL, rfl⟩ := r2.pos (by omega)
  have o6 := owns_below b2 (Nat.le_refl _) O5.out
  have B2 := hT.trans (b2.mono hT.size)
  have R2 := hid r2
  clear o2 d2 r2 b2 O5
  go_wp2_with (at_builtin; refine wpList_append_own _ rfl _ _ 22 rfl w.heap.size 5 i0 (.int .u8 0) 1 1 Try.underlying22 hi hz0 hz1 hz2 rfl (by decide) _ _ _ rfl o6 ⟨bL, oL, none⟩ 8 cap2 (bys (hi8 X 8)) rfl ?k2 R2.out.news (bys_one _) ?k4 ?k5 ?k6 ?_)
  case k2 => rw [bys_length, hi8_length]
  case k4 => unfold maxLen; omega
  case k5 => omega
  case k6 => exact B2.size
  intro v7 w7 o7 g7 _
  have B7 : Below w.heap.size w w7 := B2.grown g7 B2.size (fun k hk => (o6.lt k hk).1)
  have O7 := hid o7
  clear o7 g7 o6
  go_wp2_with fail
  go_ret
  exact ⟨_, rfl, by have := O7.out; simpa [bys] using this, B7⟩

set_option maxRecDepth 100000 in
set_option maxHeartbeats 3200000 in
theorem spec_l3bytes_text (N : Int) (f : Nat) {ad : Option Addr} {n : Nat} (cap B : Nat) (hnil : ad = none → cap = 0) {zs : List Int} {w : World} (h : Reads w ad n zs) (hn : n ≤ 2097152) :
    Calls Try.prog 92 #[.agg #[.int .i64 3, .int .i64 N, .float .f64 f, .slice ad n cap], .int .u64 B] w fun e w' => ∃ v, e = .returned v ∧ w'.ownsRow w.heap.size 5 1 v (1 + n) (bys ([3] ++ zs)) ∧ Below w.heap.size w w' := by
  obtain ⟨i0, hi, hz0, hz1, hz2⟩ := info_parts Try.info5
  have hl := h.len
  have z1 := alloc_size w (.cells #[.int .i64 3, .int .i64 N, .float .f64 f, .slice ad n cap] 63)
  have o5 := World.ownsRow_lit (base := w.heap.size) (e := 5) (size := 1) (w.alloc (.cells #[.int .i64 3, .int .i64 N, .float .f64 f, .slice ad n cap] 63)) #[.int .u8 3] 1 (by omega) (by unfold maxLen; omega) rfl
  have hT := two w (.cells #[.int .i64 3, .int .i64 N, .float .f64 f, .slice ad n cap] 63) (.cells #[.int .u8 3] 5)
  have r2 := h.below hT (Nat.le_refl _)
  rw [z1] at o5
  have zz := hT.size
  have O5 := hid o5
  have R2 := hid r2
  have HT := hid hT
  have ZZ := hid zz
  clear o5 z1 r2 hT zz
  rcases hc : ad with _ | a
  · subst hc
    obtain rfl := hnil rfl
    obtain rfl : n = 0 := by
      rcases h.cells with h0 | ⟨b, off, e, _⟩
      · exact h0
      · cases e
    obtain rfl : zs = [] := List.eq_nil_of_length_eq_zero hl
    clear h
    go_enter Try.func92, Try.ntmps92
    go_wp2_with (at_builtin; refine wpList_append_own_none rfl _ _ 22 rfl w.heap.size 5 i0 1 Try.underlying22 hi _ _ _ rfl O5.out rfl ?_)
    go_ret
    exact ⟨_, rfl, by have := O5.out; simpa [bys] using this, HT.out⟩
  · subst hc
    clear h
    go_enter Try.func92, Try.ntmps92
    go_wp2_with (at_builtin; refine wpList_append_own _ rfl _ _ 22 rfl w.heap.size 5 i0 (.int .u8 0) 1 1 Try.underlying22 hi hz0 hz1 hz2 rfl (by decide) _ _ _ rfl O5.out a n cap (bys zs) rfl ?k2 R2.out.news (bys_one _) ?k4 ?k5 ?k6 ?_)
    case k2 => simp [bys_length, hl]
    case k4 => unfold maxLen; omega
    case k5 => omega
    case k6 => omega
    intro v7 w7 o7 g7 _
    have B7 : Below w.heap.size w w7 := HT.out.grown g7 ZZ.out (fun k hk => (O5.out.lt k hk).1)
    have O7 := hid o7
    clear o7 g7
    go_wp2_with fail
    go_ret
    exact ⟨_, rfl, by have := O7.out; simpa [bys] using this, B7⟩
end Go.Proofs.Ytioefplkadpfnaa
