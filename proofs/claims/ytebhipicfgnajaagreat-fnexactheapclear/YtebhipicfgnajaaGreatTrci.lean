/- TupleRead, the program's: it answers 'readT'. Conditions: lists of at most 2^20 bytes. -/
import Derived.Test.YtebhipicfgnajaaGreatTri
namespace Go.Proofs.YtebhipicfgnajaaGreat
open Go.RowKit
set_option maxRecDepth 100000

theorem tzero {zs : List Int} {w w' : World} {e : Ending} (h : e = .returned (.tuple #[.agg #[.int .i64 0, .int .i64 0, .int .i64 0, .int .i64 0, .float .f64 0, .slice none 0 0, .int .i64 0, .int .i64 0, .float .f64 0, .slice none 0 0], .bool false]) ∧ Below w.heap.size w w') (hT : readT zs = t0) : ∃ (f1 : Nat) (v1 : Value) (f2 : Nat) (v2 : Value), e = .returned (.tuple #[.agg #[.int .i64 (readT zs).A, .int .i64 (readT zs).B, .int .i64 (readT zs).K, .int .i64 (readT zs).N, .float .f64 f1, v1, .int .i64 (readT zs).L, .int .i64 (readT zs).M, .float .f64 f2, v2], .bool (readT zs).ok]) ∧ f1 < 18446744073709551616 ∧ f2 < 18446744073709551616 ∧ Hid (Same (readT zs).F f1) ∧ Hid (Same (readT zs).H f2) ∧ w'.ownsRow w.heap.size 5 1 v1 (readT zs).Z.length (bys (readT zs).Z) ∧ w'.ownsRow w.heap.size 5 1 v2 (readT zs).Y.length (bys (readT zs).Y) ∧ Apart v1 v2 ∧ Below w.heap.size w w' := by
  obtain ⟨rfl, b⟩ := h
  rw [hT]
  exact ⟨0, .slice none 0 0, 0, .slice none 0 0, rfl, by omega, by omega, hid (Same.refl _), hid (Same.refl _), World.ownsRow_nil _ _ _ _, World.ownsRow_nil _ _ _ _, .inl rfl, b⟩

theorem impl_TupleRead {ad : Option Addr} {n : Nat} (cap : Nat) (hc : n ≤ cap) {zs : List Int} {w : World} (h : Reads w ad n zs) (hn : n ≤ 1048576) :
    Calls Tryz.prog 137 #[.slice ad n cap] w fun e w' => ∃ (f1 : Nat) (v1 : Value) (f2 : Nat) (v2 : Value), e = .returned (.tuple #[.agg #[.int .i64 (readT zs).A, .int .i64 (readT zs).B, .int .i64 (readT zs).K, .int .i64 (readT zs).N, .float .f64 f1, v1, .int .i64 (readT zs).L, .int .i64 (readT zs).M, .float .f64 f2, v2], .bool (readT zs).ok]) ∧ f1 < 18446744073709551616 ∧ f2 < 18446744073709551616 ∧ Hid (Same (readT zs).F f1) ∧ Hid (Same (readT zs).H f2) ∧ w'.ownsRow w.heap.size 5 1 v1 (readT zs).Z.length (bys (readT zs).Z) ∧ w'.ownsRow w.heap.size 5 1 v2 (readT zs).Y.length (bys (readT zs).Y) ∧ Apart v1 v2 ∧ Below w.heap.size w w' := by
  cases hw : whole zs with
  | false => exact (tread_no cap hc h hn hw).mono fun e w' hh => tzero hh (readT_no fun k => by rw [hw] at k; cases k.1)
  | true =>
    have h10 := whole_10 hw
    obtain ⟨b, off, rfl⟩ := h.pos (by have := h.len; omega)
    cases hl : limT zs with
    | false => exact (tread_lim cap hc h hn hw hl).mono fun e w' hh => tzero hh (readT_no fun k => by rw [hl] at k; cases k.2.1)
    | true =>
      obtain ⟨RK, RN, RF, RZ, k1, hk⟩ : ∃ (RK RN : Int) (RF : Nat) (RZ : List Int) (k1 : Bool), readR unfK (keyP zs) = (RK, RN, RF, RZ, k1) := ⟨_, _, _, _, _, rfl⟩
      obtain ⟨SK, SN, SF, SZ, k2, hr⟩ : ∃ (RK RN : Int) (RF : Nat) (RZ : List Int) (k1 : Bool), readR unfV (valP zs) = (RK, RN, RF, RZ, k1) := ⟨_, _, _, _, _, rfl⟩
      cases k1 with
      | false =>
        have hz : readT zs = t0 := readT_no fun k => by rw [hk] at k; cases k.2.2.1
        cases k2 with
        | false => exact (tread_nokv cap hc h hn hw hl hk hr).mono fun e w' hh => tzero hh hz
        | true => exact (tread_nok cap hc h hn hw hl hk hr).mono fun e w' hh => tzero hh hz
      | true =>
        cases k2 with
        | false => exact (tread_nov cap hc h hn hw hl hk hr).mono fun e w' hh => tzero hh (readT_no fun k => by rw [hr] at k; cases k.2.2.2)
        | true =>
          rw [readT_yes hw hl hk hr]
          exact tread_yes cap hc h hn hw hl hk hr

theorem readT_bd {zs : List Int} (hz : ∀ i, 0 ≤ zs.getD i 0 ∧ zs.getD i 0 ≤ 255) (hl : zs.length ≤ 1048576) : (∀ i, 0 ≤ (readT zs).Z.getD i 0 ∧ (readT zs).Z.getD i 0 ≤ 255) ∧ (readT zs).Z.length ≤ 1048576 ∧ (∀ i, 0 ≤ (readT zs).Y.getD i 0 ∧ (readT zs).Y.getD i 0 ≤ 255) ∧ (readT zs).Y.length ≤ 1048576 := by
  obtain ⟨RK, RN, RF, RZ, b1, hk⟩ : ∃ (RK RN : Int) (RF : Nat) (RZ : List Int) (k1 : Bool), readR unfK (keyP zs) = (RK, RN, RF, RZ, k1) := ⟨_, _, _, _, _, rfl⟩
  obtain ⟨SK, SN, SF, SZ, b2, hr⟩ : ∃ (RK RN : Int) (RF : Nat) (RZ : List Int) (k1 : Bool), readR unfV (valP zs) = (RK, RN, RF, RZ, k1) := ⟨_, _, _, _, _, rfl⟩
  have d1 := readR_bd hk (take_bd (drop_bd hz 9) _) (by simp [keyP]; omega)
  have d2 := readR_bd hr (drop_bd hz _) (by simp [valP]; omega)
  unfold readT
  rw [hk, hr]
  split
  · exact ⟨d1.1, d1.2, d2.1, d2.2⟩
  · exact ⟨fun i => by simp [t0], by simp [t0], fun i => by simp [t0], by simp [t0]⟩
end Go.Proofs.YtebhipicfgnajaaGreat
