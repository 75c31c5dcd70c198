/- The contracts of GetNum, the specification's and the program's: both answer 'numOf', 'numOk' of what is read, and leave memory as it was. For every argument. -/
import Derived.Test.YtplbejipkaionaaHelp
import Derived.Test.YtplbejipkaionaaVal
import Derived.WalkLawsBesides
import Derived.Laws.BitsAllLaws
namespace Go.Proofs.Ytplbejipkaionaa
set_option maxRecDepth 100000
open Go.RowKit

set_option maxHeartbeats 1600000 in
theorem spec_GetNum_yes (b off n cap at' size : Nat) (zs : List Int) (w : World) (hn : n ≤ 2097152) (hz : zs.length = n) (h1 : 1 ≤ size) (h8 : size ≤ 8) (hl : at' + size ≤ n)
    (hbd : ∀ j, 0 ≤ byteFrom zs at' j ∧ byteFrom zs at' j ≤ 255)
    (hc : ∀ j, j < size → w.cell? ⟨b, off + (at' + j), none⟩ = some (.int .u8 (byteFrom zs at' j))) :
    Calls Try.prog 34 #[.slice (some ⟨b, off, none⟩) n cap, .int .i64 at', .int .i64 size] w fun e w' =>
      e = .returned (.tuple #[.int .i64 (numOf zs at' size), .bool (numOk zs at' size)]) ∧ w' = w := by
  have Hno := hid (num_big zs at' size)
  have Hyes := hid (num_yes zs at' size h1 h8 (by omega))
  generalize byteFrom zs at' = f at hbd hc Hno Hyes
  go_enter Try.func34, Try.ntmps34
  go_wp2
  go_loopw [8, 9, 10] (fun sn i _ wr => ∃ k : Nat, k ≤ size ∧ i = .int .i64 ((k : Int) - 1) ∧ sn = .int .i64 (val f k (size - k)) ∧ (size = 8 → k ≤ 7 → f 7 ≤ 127) ∧ wr = w) (fun _ i _ _ => (intOf i + 1).toNat)
  case atStart => exact ⟨size, Nat.le_refl _, by go_num, by rw [Nat.sub_self]; rfl, fun h h' => by omega, rfl⟩
  case round =>
    obtain ⟨k, hk, rfl, rfl, ht, rfl⟩ := hrel
    by_cases hlt : k = 0
    · subst hlt
      have hv : val f 0 (size - 0) ≤ 9223372036854775807 := by
        by_cases e : size = 8
        · subst e
          have := val_top f hbd 7 0 (ht rfl (by omega))
          have : (256 : Int) ^ 7 = 72057594037927936 := by decide
          have e8 : val f 0 (8 - 0) = val f 0 (7 + 1) := rfl
          omega
        · have := val_in f hbd 1 size (by omega) h1 h8 (fun h => absurd h e)
          have := hbd 0
          have hst := val_step f 0 size (by omega)
          simp only [Nat.zero_add] at hst
          omega
      have Hv := hid hv
      clear hv ht
      go_wp2
      go_ret2
      obtain ⟨e1, e2⟩ := Hyes.out Hv.out
      rw [e1, e2]
      exact ⟨rfl, rfl⟩
    · obtain ⟨j, rfl⟩ : ∃ j, k = j + 1 := ⟨k - 1, by omega⟩
      have hb := hbd j
      have hcell := hc j (by omega)
      have hv := val_in f hbd (j + 1) size (by omega) hk h8 ht
      have hv0 := val_nonneg f hbd (size - (j + 1)) (j + 1)
      have hs := hid (val_step f j size (by omega))
      have HT := hid ht
      clear ht hc
      generalize val f (j + 1) (size - (j + 1)) = V at hv hv0 hs
      by_cases h7 : j = 7
      · have h7' : ((j : Int) == 7) = true := beq_iff_eq.2 (by omega)
        have e7 := hid h7
        have e8 : Hid (size = 8) := by have : size = 8 := by omega
                                       exact this
        clear h7
        by_cases hx : 127 < f j
        · go_wp2
          go_ret2
          obtain ⟨e1, e2⟩ := Hno.out (by
            have := val_top_ge f hbd 7 0 (by rw [Nat.zero_add, ← e7.out]; omega)
            have : (256 : Int) ^ 7 = 72057594037927936 := by decide
            have e9 : val f 0 size = val f 0 (7 + 1) := by rw [e8.out]
            omega)
          rw [e1, e2]
          exact ⟨rfl, rfl⟩
        · go_wp2
          go_roundw
          case rel => exact ⟨j, by omega, by go_num, by rw [hs.out], fun _ _ => by rw [← e7.out]; omega, by first | trivial | rfl⟩
          case measure => simp [intOf]
      · have h7' : ((j : Int) == 7) = false := beq_eq_false_iff_ne.2 (by omega)
        go_wp2
        go_roundw
        case rel => exact ⟨j, by omega, by go_num, by rw [hs.out], fun h h' => HT.out h (by omega), by first | trivial | rfl⟩
        case measure => simp [intOf]

theorem or_byte (V x : Int) (h0 : 0 ≤ V) (h1 : V ≤ 72057594037927935) (h2 : 0 ≤ x) (h3 : x ≤ 255) : bits .or .u64 (V * 256) x = V * 256 + x := by
  obtain ⟨v, rfl⟩ := Int.eq_ofNat_of_zero_le h0
  obtain ⟨y, rfl⟩ := Int.eq_ofNat_of_zero_le h2
  rw [u64_or _ _ (by omega) (by omega) (by omega) (by omega)]
  have e : ((v : Int) * 256).toNat = v <<< 8 := by rw [Nat.shiftLeft_eq]; omega
  rw [e, Int.toNat_natCast, ← Nat.shiftLeft_add_eq_or_of_lt (by omega), Nat.shiftLeft_eq]
  omega

set_option maxHeartbeats 1600000 in
theorem impl_GetNum_yes (b off n cap at' size : Nat) (zs : List Int) (w : World) (hn : n ≤ 2097152) (hz : zs.length = n) (h1 : 1 ≤ size) (h8 : size ≤ 8) (hl : at' + size ≤ n)
    (hbd : ∀ j, 0 ≤ byteFrom zs at' j ∧ byteFrom zs at' j ≤ 255)
    (hc : ∀ j, j < size → w.cell? ⟨b, off + (at' + j), none⟩ = some (.int .u8 (byteFrom zs at' j))) :
    Calls Try.prog 32 #[.slice (some ⟨b, off, none⟩) n cap, .int .i64 at', .int .i64 size] w fun e w' =>
      e = .returned (.tuple #[.int .i64 (numOf zs at' size), .bool (numOk zs at' size)]) ∧ w' = w := by
  have Hno := hid (num_big zs at' size)
  have Hyes := hid (num_yes zs at' size h1 h8 (by omega))
  generalize byteFrom zs at' = f at hbd hc Hno Hyes
  go_enter Try.func32, Try.ntmps32
  go_wp2
  go_loopw [8, 9] (fun sn i wr => ∃ k : Nat, k ≤ size ∧ i = .int .i64 ((at' : Int) + k - 1) ∧ sn = .int .u64 (val f k (size - k)) ∧ wr = w) (fun _ i _ => (intOf i + 1 - at').toNat)
  case atStart => exact ⟨size, Nat.le_refl _, by go_num, by rw [Nat.sub_self]; rfl, rfl⟩
  case round =>
    obtain ⟨k, hk, rfl, rfl, rfl⟩ := hrel
    by_cases hlt : k = 0
    · subst hlt
      have hv := val_64 f hbd 0 size h8
      have hv0 := val_nonneg f hbd (size - 0) 0
      rw [Nat.sub_zero] at hv hv0
      simp only [Nat.sub_zero]
      generalize val f 0 size = V at *
      by_cases hV : V ≤ 9223372036854775807
      · go_wp2
        go_ret2
        obtain ⟨e1, e2⟩ := Hyes.out hV
        rw [e1, e2]
        exact ⟨rfl, rfl⟩
      · go_wp2
        go_ret2
        obtain ⟨e1, e2⟩ := Hno.out (by omega)
        rw [e1, e2]
        exact ⟨rfl, rfl⟩
    · obtain ⟨j, rfl⟩ : ∃ j, k = j + 1 := ⟨k - 1, by omega⟩
      have hb := hbd j
      have hcell := hc j (by omega)
      have hv := val_56 f hbd (j + 1) size (by omega) h8
      have hv0 := val_nonneg f hbd (size - (j + 1)) (j + 1)
      have hs := hid (val_step f j size (by omega))
      generalize val f (j + 1) (size - (j + 1)) = V at *
      have hor := hid (or_byte V (f j) hv0 hv hb.1 hb.2)
      clear hc
      go_wp2
      go_roundw
      case rel => exact ⟨j, by omega, by go_num, by rw [hs.out, hor.out], by first | trivial | rfl⟩
      case measure => simp [intOf]; omega

set_option maxHeartbeats 1600000 in
theorem spec_GetNum_no (ad : Option Addr) (n cap : Nat) (at' size : Int) (w : World) (_hn : n ≤ 2097152) (hs : size ≤ 9223372036854775807) (ha : at' ≤ 9223372036854775807) (ha' : -9223372036854775808 ≤ at') (h : ¬ (1 ≤ size ∧ size ≤ 8 ∧ 0 ≤ at' ∧ at' + size ≤ n)) :
    Calls Try.prog 34 #[.slice ad n cap, .int .i64 at', .int .i64 size] w fun e w' => e = .returned (.tuple #[.int .i64 0, .bool false]) ∧ w' = w := by
  by_cases a1 : size < 1
  · go_enter Try.func34, Try.ntmps34
    go_wp2
    go_ret2
    exact ⟨rfl, rfl⟩
  by_cases a2 : 8 < size
  · go_enter Try.func34, Try.ntmps34
    go_wp2
    go_ret2
    exact ⟨rfl, rfl⟩
  by_cases a3 : at' < 0
  · go_enter Try.func34, Try.ntmps34
    go_wp2
    go_ret2
    exact ⟨rfl, rfl⟩
  by_cases a4 : (n : Int) < at'
  · go_enter Try.func34, Try.ntmps34
    go_wp2
    go_ret2
    exact ⟨rfl, rfl⟩
  have a5 : (n : Int) - at' < size := by omega
  go_enter Try.func34, Try.ntmps34
  go_wp2
  go_ret2
  exact ⟨rfl, rfl⟩

set_option maxHeartbeats 1600000 in
theorem impl_GetNum_no (ad : Option Addr) (n cap : Nat) (at' size : Int) (w : World) (hn : n ≤ 2097152) (hs : size ≤ 9223372036854775807) (ha : at' ≤ 9223372036854775807) (ha' : -9223372036854775808 ≤ at') (h : ¬ (1 ≤ size ∧ size ≤ 8 ∧ 0 ≤ at' ∧ at' + size ≤ n)) :
    Calls Try.prog 32 #[.slice ad n cap, .int .i64 at', .int .i64 size] w fun e w' => e = .returned (.tuple #[.int .i64 0, .bool false]) ∧ w' = w := by
  by_cases a1 : size < 1
  · go_enter Try.func32, Try.ntmps32
    go_wp2
    go_ret2
    exact ⟨rfl, rfl⟩
  by_cases a2 : 8 < size
  · go_enter Try.func32, Try.ntmps32
    go_wp2
    go_ret2
    exact ⟨rfl, rfl⟩
  by_cases a3 : at' < 0
  · go_enter Try.func32, Try.ntmps32
    go_wp2
    go_ret2
    exact ⟨rfl, rfl⟩
  have a5 : (n : Int) - size < at' := by omega
  go_enter Try.func32, Try.ntmps32
  go_wp2
  go_ret2
  exact ⟨rfl, rfl⟩

theorem from_reads {ad : Option Addr} {n : Nat} {zs : List Int} {w : World} (h : Reads w ad n zs) {at' size : Nat} (h1 : 1 ≤ size) (hl : at' + size ≤ n) :
    ∃ b off, ad = some ⟨b, off, none⟩ ∧ (∀ j, 0 ≤ byteFrom zs at' j ∧ byteFrom zs at' j ≤ 255) ∧ ∀ j, j < size → w.cell? ⟨b, off + (at' + j), none⟩ = some (.int .u8 (byteFrom zs at' j)) := by
  rcases h.cells with h0 | ⟨b, off, rfl, hc⟩
  · omega
  · exact ⟨b, off, rfl, fun j => h.bd (at' + j), fun j hj => hc (at' + j) (by omega)⟩

theorem spec_GetNum {ad : Option Addr} {n : Nat} (cap : Nat) {zs : List Int} {w : World} (h : Reads w ad n zs) (hn : n ≤ 2097152) (at' size : Int) (hs : size ≤ 9223372036854775807) (ha : at' ≤ 9223372036854775807) (ha' : -9223372036854775808 ≤ at') :
    Calls Try.prog 34 #[.slice ad n cap, .int .i64 at', .int .i64 size] w fun e w' => e = .returned (.tuple #[.int .i64 (numOf zs at' size), .bool (numOk zs at' size)]) ∧ w' = w := by
  by_cases hc : 1 ≤ size ∧ size ≤ 8 ∧ 0 ≤ at' ∧ at' + size ≤ n
  · obtain ⟨A, rfl⟩ := Int.eq_ofNat_of_zero_le hc.2.2.1
    obtain ⟨S, rfl⟩ := Int.eq_ofNat_of_zero_le (show 0 ≤ size by omega)
    obtain ⟨b, off, rfl, h1, h2⟩ := from_reads h (at' := A) (size := S) (by omega) (by omega)
    exact spec_GetNum_yes b off n cap A S zs w hn h.len (by omega) (by omega) (by omega) h1 h2
  · obtain ⟨e1, e2⟩ := num_no zs at' size (by rw [h.len]; exact hc)
    rw [e1, e2]
    exact spec_GetNum_no ad n cap at' size w hn hs ha ha' hc

theorem impl_GetNum {ad : Option Addr} {n : Nat} (cap : Nat) {zs : List Int} {w : World} (h : Reads w ad n zs) (hn : n ≤ 2097152) (at' size : Int) (hs : size ≤ 9223372036854775807) (ha : at' ≤ 9223372036854775807) (ha' : -9223372036854775808 ≤ at') :
    Calls Try.prog 32 #[.slice ad n cap, .int .i64 at', .int .i64 size] w fun e w' => e = .returned (.tuple #[.int .i64 (numOf zs at' size), .bool (numOk zs at' size)]) ∧ w' = w := by
  by_cases hc : 1 ≤ size ∧ size ≤ 8 ∧ 0 ≤ at' ∧ at' + size ≤ n
  · obtain ⟨A, rfl⟩ := Int.eq_ofNat_of_zero_le hc.2.2.1
    obtain ⟨S, rfl⟩ := Int.eq_ofNat_of_zero_le (show 0 ≤ size by omega)
    obtain ⟨b, off, rfl, h1, h2⟩ := from_reads h (at' := A) (size := S) (by omega) (by omega)
    exact impl_GetNum_yes b off n cap A S zs w hn h.len (by omega) (by omega) (by omega) h1 h2
  · obtain ⟨e1, e2⟩ := num_no zs at' size (by rw [h.len]; exact hc)
    rw [e1, e2]
    exact impl_GetNum_no ad n cap at' size w hn hs ha ha' hc
end Go.Proofs.Ytplbejipkaionaa
