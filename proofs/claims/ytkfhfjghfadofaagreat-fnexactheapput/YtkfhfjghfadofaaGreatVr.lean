/- ValueRead of the specification. -/
import Derived.Test.YtkfhfjghfadofaaGreatMgd
import Derived.Test.YtkfhfjghfadofaaGreatSVb
namespace Go.Proofs.YtkfhfjghfadofaaGreat
open Go.RowKit
set_option maxRecDepth 100000 in
set_option maxHeartbeats 1600000 in
theorem spec_ValueRead_out (ad : Option Addr) (n cap : Nat) (h : n < 1 ∨ 41 < n) (hn : n ≤ 2097152) (w : World) :
 Calls Tryz.prog 100 #[.slice ad n cap] w fun e w' => e = .returned (.tuple #[.agg #[.int .i64 0, .int .i64 0, .float .f64 0, .slice none 0 0], .bool false]) ∧ Below w.heap.size w w' := by
 have hst := fun w a m => run_store Tryz.prog w a (.float .f64 0) m rfl
 have HB := hid (two w (.cells #[.int .i64 0, .int .i64 0, .float .f64 0, .slice none 0 0] 29) (.cells #[.int .i64 0, .int .i64 0, .float .f64 0, .slice none 0 0] 29))
 have HR := hid (two_rows w (.cells #[.int .i64 0, .int .i64 0, .float .f64 0, .slice none 0 0] 29) (.cells #[.int .i64 0, .int .i64 0, .float .f64 0, .slice none 0 0] 29))
 rcases h with h | h
 · obtain rfl : n = 0 := by omega
   go_enter Tryz.func100, Tryz.ntmps100
   go_wp2_with fail
   exact bodyPost_ret (results_cell_tmp Tryz.results100 _ _ w.heap.size 29 #[.int .i64 0, .int .i64 0, .float .f64 0, .slice none 0 0] (0, 0) _ rfl HR.out.1 Tryz.underlying29 rfl size29) rfl ⟨rfl, HB.out⟩
 · have i1 : ¬ (n : Int) < 1 := by omega
   have i2 : (41 : Int) < (n : Int) := by omega
   go_enter Tryz.func100, Tryz.ntmps100
   go_wp2_with fail
   exact bodyPost_ret (results_cell_tmp Tryz.results100 _ _ w.heap.size 29 #[.int .i64 0, .int .i64 0, .float .f64 0, .slice none 0 0] (0, 0) _ rfl HR.out.1 Tryz.underlying29 rfl size29) rfl ⟨rfl, HB.out⟩
theorem spec_ValueRead {ad : Option Addr} {n : Nat} (cap : Nat) (hcap : n ≤ cap) {zs : List Int} {w : World} (h : Reads w ad n zs) (hn : n ≤ 1048576) {RK RN : Int} {RF : Nat} {RZ : List Int} {ok : Bool} (hR : readR unfV zs = (RK, RN, RF, RZ, ok)) :
 Calls Tryz.prog 100 #[.slice ad n cap] w fun e w' => ∃ (f' : Nat) (v : Value), e = .returned (.tuple #[.agg #[.int .i64 RK, .int .i64 RN, .float .f64 f', v], .bool ok]) ∧ f' < 18446744073709551616 ∧ Hid (Same RF f') ∧ w'.ownsRow w.heap.size 5 1 v RZ.length (bys RZ) ∧ Below w.heap.size w w' := by
 have hl := h.len
 have hbdz := h.bd
 have no : ∀ e w', (e = Ending.returned (.tuple #[.agg #[.int .i64 0, .int .i64 0, .float .f64 0, .slice none 0 0], .bool false]) ∧ Below w.heap.size w w') → (0, 0, 0, [], false) = (RK, RN, RF, RZ, ok) → ∃ (f' : Nat) (v : Value), e = .returned (.tuple #[.agg #[.int .i64 RK, .int .i64 RN, .float .f64 f', v], .bool ok]) ∧ f' < 18446744073709551616 ∧ Hid (Same RF f') ∧ w'.ownsRow w.heap.size 5 1 v RZ.length (bys RZ) ∧ Below w.heap.size w w' := by
  rintro e w' ⟨rfl, b⟩ hR
  simp only [Prod.mk.injEq] at hR
  obtain ⟨rfl, rfl, rfl, rfl, rfl⟩ := hR
  exact ⟨_, _, rfl, by omega, hid (Same.refl _), World.ownsRow_nil _ _ _ _, b⟩
 cases zs with
 | nil =>
  obtain rfl : n = 0 := by simpa using hl.symm
  exact (spec_ValueRead_out ad 0 cap (.inl (by omega)) (by omega) w).mono fun e w' hh => no e w' hh hR
 | cons k ts =>
  have hl' : ts.length + 1 = n := by simpa using hl
  have hk : 0 ≤ k ∧ k ≤ 255 := hbdz 0
  have hbt : ∀ i, 0 ≤ ts.getD i 0 ∧ ts.getD i 0 ≤ 255 := fun i => hbdz (i + 1)
  simp only [readR] at hR
  by_cases hbig : 41 < n
  · have hz : (0, 0, 0, [], false) = (RK, RN, RF, RZ, ok) := by
     by_cases k3 : k = 3
     · rw [if_pos k3, if_neg (by omega)] at hR; exact hR
     · rw [if_neg k3, if_neg (by omega)] at hR; exact hR
    exact (spec_ValueRead_out ad n cap (.inr hbig) (by omega) w).mono fun e w' hh => no e w' hh hz
  obtain ⟨b, off, rfl⟩ := h.pos (by omega)
  have hx : low ts < 18446744073709551616 := low_lt ts 0 (by omega)
  have hxN : (((low ts : Int) - 9223372036854775808) + 9223372036854775808).toNat = low ts := by omega
  by_cases k3 : k = 3
  · subst k3
    rw [if_pos rfl, if_pos (by omega)] at hR
    simp only [Prod.mk.injEq] at hR
    obtain ⟨rfl, rfl, rfl, rfl, rfl⟩ := hR
    by_cases h1 : cap = 1
    · subst h1
      obtain rfl : n = 1 := by omega
      obtain rfl : ts = [] := List.eq_nil_of_length_eq_zero (by omega)
      refine (spec_ValueRead_3y1 h (valB_text 0 [] (by omega))).mono ?_
      rintro e w' ⟨v, rfl, o, bb⟩
      exact ⟨_, _, rfl, by omega, hid (Same.refl _), o, bb⟩
    · refine (spec_ValueRead_3y cap hcap (by omega) (by omega) (by omega) h (valB_text (n - 1) ts (by omega))).mono ?_
      rintro e w' ⟨v, rfl, o, bb⟩
      exact ⟨_, _, rfl, by omega, hid (Same.refl _), by rw [show ts.length = n - 1 by omega]; exact o, bb⟩
  rw [if_neg k3] at hR
  by_cases k1 : k = 1
  · subst k1
    by_cases h8 : ts.length = 8
    · rw [if_pos h8, if_pos rfl] at hR
      simp only [Prod.mk.injEq] at hR
      obtain ⟨rfl, rfl, rfl, rfl, rfl⟩ := hR
      refine (spec_ValueRead_1y cap hcap (by omega) (by omega) (by omega) h (by rw [valB_int, hxN, hi8_low h8 hbt])).mono ?_
      rintro e w' ⟨v, rfl, o, bb⟩
      exact ⟨_, _, rfl, by omega, hid (Same.refl _), o, bb⟩
    · rw [if_neg h8] at hR
      have hne : valB 1 ((low ts : Int) - 9223372036854775808) 0 0 [] ≠ 1 :: ts := by
       rw [valB_int]; intro e; exact hi8_ne h8 (cons_len e)
      by_cases h1 : cap = 1
      · subst h1
        obtain rfl : n = 1 := by omega
        exact (spec_ValueRead_1n1 h hne).mono fun e w' hh => no e w' hh hR
      · exact (spec_ValueRead_1n cap hcap (by omega) (by omega) (by omega) h hne).mono fun e w' hh => no e w' hh hR
  by_cases k2 : k = 2
  · subst k2
    by_cases h8 : ts.length = 8
    · rw [if_pos h8, if_neg (by decide), if_pos rfl] at hR
      have h1 : n ≠ 1 := by omega
      by_cases hok : fbits (low ts) = low ts
      · rw [show unfV (low ts) = some (low ts) by rw [unfV, if_pos hok]] at hR
        simp only [Prod.mk.injEq] at hR
        obtain ⟨rfl, rfl, rfl, rfl, rfl⟩ := hR
        refine (spec_ValueRead_2y cap hcap (by omega) (by omega) (by omega) (fun y => Same (low ts) y) (fun W => (spec_FloatOf (low ts) hx W).mono fun e w' ⟨y, h1, h2, h3, h4, h5⟩ => ⟨y, h1, h2, hid (same_of h3.out h4.out), h5⟩) h (fun y hy hu => ?_)).mono ?_
        · rw [valB_float, fbits_sm hu, hok, hi8_low h8 hbt]
        · rintro e w' ⟨y, v, rfl, hy, HP, o, bb⟩
          exact ⟨_, _, rfl, hy, HP, o, bb⟩
      · rw [show unfV (low ts) = none by rw [unfV, if_neg hok]] at hR
        refine (spec_ValueRead_2n cap hcap (by omega) (by omega) (by omega) (fun y => Same (low ts) y) (fun W => (spec_FloatOf (low ts) hx W).mono fun e w' ⟨y, h1, h2, h3, h4, h5⟩ => ⟨y, h1, h2, hid (same_of h3.out h4.out), h5⟩) h (fun y hy hu => ?_)).mono fun e w' hh => no e w' hh hR
        rw [valB_float, fbits_sm hu]
        intro e
        have h7 : low (hi8 (fbits (low ts)) 8) = fbits (low ts) := low_hi8 _ (fbits_lt _ hx)
        rw [cons_len e] at h7
        exact hok h7.symm
    · rw [if_neg h8] at hR
      have hE : ∀ y : Nat, y < 18446744073709551616 → Same (low ts) y → valB 2 0 y 0 [] ≠ 2 :: ts := by
       intro y hy hu
       rw [valB_float]; intro e; exact hi8_ne h8 (cons_len e)
      by_cases h1 : cap = 1
      · subst h1
        obtain rfl : n = 1 := by omega
        exact (spec_ValueRead_2n1 (fun y => Same (low ts) y) (fun W => (spec_FloatOf (low ts) hx W).mono fun e w' ⟨y, h1, h2, h3, h4, h5⟩ => ⟨y, h1, h2, hid (same_of h3.out h4.out), h5⟩) h hE).mono fun e w' hh => no e w' hh hR
      · exact (spec_ValueRead_2n cap hcap (by omega) (by omega) (by omega) (fun y => Same (low ts) y) (fun W => (spec_FloatOf (low ts) hx W).mono fun e w' ⟨y, h1, h2, h3, h4, h5⟩ => ⟨y, h1, h2, hid (same_of h3.out h4.out), h5⟩) h hE).mono fun e w' hh => no e w' hh hR
  have hz : (0, 0, 0, [], false) = (RK, RN, RF, RZ, ok) := by
   by_cases h8 : ts.length = 8
   · rw [if_pos h8, if_neg k1, if_neg k2] at hR; exact hR
   · rw [if_neg h8] at hR; exact hR
  have hne : valB k 0 0 0 [] ≠ k :: ts := by rw [valB_other k k1 k2 k3]; intro e; cases e
  by_cases h1 : cap = 1
  · subst h1
    obtain rfl : n = 1 := by omega
    exact (spec_ValueRead_on1 k hk k1 k2 k3 h hne).mono fun e w' hh => no e w' hh hz
  · exact (spec_ValueRead_on cap hcap (by omega) k hk k1 k2 k3 (by omega) (by omega) h hne).mono fun e w' hh => no e w' hh hz
end Go.Proofs.YtkfhfjghfadofaaGreat
