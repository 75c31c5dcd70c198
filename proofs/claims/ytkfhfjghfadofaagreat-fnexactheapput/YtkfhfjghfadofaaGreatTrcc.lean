/- TupleRead, the specification's: it answers 'readT'. Conditions: lists of at most 2^20 bytes, of any room. -/
import Derived.Test.YtkfhfjghfadofaaGreatMgd
import Derived.Test.YtkfhfjghfadofaaGreatTrtc
namespace Go.Proofs.YtkfhfjghfadofaaGreat
open Go.RowKit
set_option maxRecDepth 100000
theorem spec_TupleRead_any {ad : Option Addr} {n : Nat} (cap : Nat) (hcap : n ≤ cap) {zs : List Int} {w : World} (h : Reads w ad n zs) (hn : n ≤ 1048576) :
 Calls Tryz.prog 49 #[.slice ad n cap] w fun e w' => ∃ (f1 : Nat) (v1 : Value) (f2 : Nat) (v2 : Value), e = .returned (.tuple #[.agg #[.int .i64 (readT zs).A, .int .i64 (readT zs).B, .int .i64 (readT zs).K, .int .i64 (readT zs).N, .float .f64 f1, v1, .int .i64 (readT zs).L, .int .i64 (readT zs).M, .float .f64 f2, v2], .bool (readT zs).ok]) ∧ f1 < 18446744073709551616 ∧ f2 < 18446744073709551616 ∧ Hid (Same (readT zs).F f1) ∧ Hid (Same (readT zs).H f2) ∧ w'.ownsRow w.heap.size 5 1 v1 (readT zs).Z.length (bys (readT zs).Z) ∧ w'.ownsRow w.heap.size 5 1 v2 (readT zs).Y.length (bys (readT zs).Y) ∧ Apart v1 v2 ∧ Below w.heap.size w w' := by
 have hl := h.len
 by_cases ho : n < 10 ∨ 92 < n
 · refine (stread_out ad n cap ho (by omega) w).mono fun e w' hh => tzero hh (readT_no fun k => ?_)
   obtain ⟨k1, _, k2, k3⟩ := k
   have h10 := whole_10 k1
   obtain ⟨RK, RN, RF, RZ, b1, hk⟩ : ∃ (RK RN : Int) (RF : Nat) (RZ : List Int) (k1 : Bool), readR unfK (keyP zs) = (RK, RN, RF, RZ, k1) := ⟨_, _, _, _, _, rfl⟩
   obtain ⟨SK, SN, SF, SZ, b2, hr⟩ : ∃ (RK RN : Int) (RF : Nat) (RZ : List Int) (k1 : Bool), readR unfV (valP zs) = (RK, RN, RF, RZ, k1) := ⟨_, _, _, _, _, rfl⟩
   rw [hk] at k2
   rw [hr] at k3
   obtain rfl : b1 = true := k2
   obtain rfl : b2 = true := k3
   have l1 := (readR_len hk).2
   have l2 := (readR_len hr).2
   simp only [keyP, valP, List.length_take, List.length_drop] at l1 l2
   omega
 obtain ⟨b, off, rfl⟩ := h.pos (by omega)
 by_cases hb : n < 10 + tkl zs
 · exact (stread_big cap hcap h (by omega) (by omega) hb).mono fun e w' hh => tzero hh (readT_no fun k => by have := whole_10 k.1; omega)
 obtain ⟨RK, RN, RF, RZ, k1, hk⟩ : ∃ (RK RN : Int) (RF : Nat) (RZ : List Int) (k1 : Bool), readR unfK (keyP zs) = (RK, RN, RF, RZ, k1) := ⟨_, _, _, _, _, rfl⟩
 obtain ⟨SK, SN, SF, SZ, k2, hr⟩ : ∃ (RK RN : Int) (RF : Nat) (RZ : List Int) (k1 : Bool), readR unfV (valP zs) = (RK, RN, RF, RZ, k1) := ⟨_, _, _, _, _, rfl⟩
 by_cases hE : cap = 10 + tkl zs
 · obtain rfl : cap = n := by omega
   have hv : valP zs = [] := List.drop_eq_nil_of_le (by omega)
   have hz : k2 = false := by
    rw [hv] at hr
    simp only [readR, Prod.mk.injEq] at hr
    exact hr.2.2.2.2.symm
   subst hz
   have hzz : readT zs = t0 := readT_no fun k => by rw [hr] at k; cases k.2.2.2
   cases k1 with
   | false => exact (stread_nokE h (by omega) (by omega) hE hk hr).mono fun e w' hh => tzero hh hzz
   | true => exact (stread_nofineE h (by omega) (by omega) hE hk hr).mono fun e w' hh => tzero hh hzz
 cases k1 with
 | false => exact (stread_nok cap hcap h (by omega) (by omega) (by omega) hE hk hr).mono fun e w' hh => tzero hh (readT_no fun k => by rw [hk] at k; cases k.2.2.1)
 | true =>
  cases k2 with
  | false => exact (stread_nofine cap hcap h (by omega) (by omega) (by omega) hE hk hr).mono fun e w' hh => tzero hh (readT_no fun k => by rw [hr] at k; cases k.2.2.2)
  | true =>
   by_cases hw : whole zs = true ∧ limT zs = true
   · rw [readT_yes hw.1 hw.2 hk hr]
     exact stread_yes cap hcap h (by omega) (by omega) (by omega) hE hk hr hw.1 hw.2
   · exact (stread_neq cap hcap h (by omega) (by omega) (by omega) hE hk hr hw).mono fun e w' hh => tzero hh (readT_no fun k => hw ⟨k.1, k.2.1⟩)
end Go.Proofs.YtkfhfjghfadofaaGreat
