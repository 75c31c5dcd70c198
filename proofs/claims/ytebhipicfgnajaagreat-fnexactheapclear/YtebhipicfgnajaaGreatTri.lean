/- The contract of the program's TupleRead. Conditions: lists of at most 2^20 bytes. -/
import Derived.Test.YtebhipicfgnajaaGreatTi
import Derived.Test.YtebhipicfgnajaaGreatMgc
import Derived.Test.YtebhipicfgnajaaGreatTl
import Derived.Test.YtebhipicfgnajaaGreatNzt
namespace Go.Proofs.YtebhipicfgnajaaGreat
open Go.RowKit
set_option maxRecDepth 100000

theorem laid_false {ad : Option Addr} {n : Nat} (cap : Nat) (hc : n ≤ cap) {zs : List Int} {w : World} (h : Reads w ad n zs) (hn : n ≤ 1048576) (hw : whole zs = false) :
    Calls Tryz.prog 171 #[.slice ad n cap] w fun e w' => ∃ A B a1 n1 c1 a2 n2 c2, e = .returned (.tuple #[.agg #[.int .i64 A, .int .i64 B, .slice a1 n1 c1, .slice a2 n2 c2], .bool false]) ∧ Below w.heap.size w w' := by
  have hl := h.len
  have hz := h.bd
  by_cases h8 : n < 8
  · refine (laid_short ad n cap h8 w).mono ?_
    rintro e w' ⟨rfl, b⟩
    exact ⟨_, _, _, _, _, _, _, _, rfl, b⟩
  obtain ⟨b, off, rfl⟩ := h.pos (by omega)
  by_cases h88 : cap = 8
  · exact laid_no8 cap h hn (by omega) hc h88
  have e8 : zs.getD 8 0 = (tkl zs : Int) := by unfold tkl; have := (hz 8).1; omega
  by_cases h1 : 9 + tkl zs ≤ n
  · by_cases h2 : n - (9 + tkl zs) = 0 ∨ ((n - (9 + tkl zs) : Nat) : Int) - 1 < zs.getD (9 + tkl zs) 0
    · exact laid_noV cap h hn (by omega) hc h88 e8 h1 h2
    · have b9 := hz (9 + tkl zs)
      obtain ⟨t, ht⟩ := Int.eq_ofNat_of_zero_le b9.1
      have hne : ¬ (10 + tkl zs ≤ zs.length ∧ zs.getD (9 + tkl zs) 0 = ((zs.length - (10 + tkl zs) : Nat) : Int)) := of_decide_eq_false hw
      refine laid_noE cap h hn (by omega) hc h88 e8 h1 ht ?_
      rw [ht] at h2 hne
      omega
  · refine laid_noK cap h hn (by omega) hc h88 ?_
    rw [e8]
    omega

theorem laid_true {b off n : Nat} (cap : Nat) (hc : n ≤ cap) {zs : List Int} {w : World} (h : Reads w (some ⟨b, off, none⟩) n zs) (hn : n ≤ 1048576) (hw : whole zs = true) :
    Calls Tryz.prog 171 #[.slice (some ⟨b, off, none⟩) n cap] w fun e w' => ∃ aK cK aV cV, e = .returned (.tuple #[.agg #[.int .i64 (numOf zs 0 4), .int .i64 (numOf zs 4 4), .slice aK (tkl zs) cK, .slice aV (n - (10 + tkl zs)) cV], .bool true]) ∧ Hid (∀ U, Reads U (some ⟨b, off, none⟩) n zs → Reads U aK (tkl zs) (keyP zs)) ∧ tkl zs ≤ cK ∧ Hid (∀ U, Reads U (some ⟨b, off, none⟩) n zs → Reads U aV (n - (10 + tkl zs)) (valP zs)) ∧ n - (10 + tkl zs) ≤ cV ∧ Below w.heap.size w w' := by
  have hl := h.len
  have hz := h.bd
  have e8 : zs.getD 8 0 = (tkl zs : Int) := by unfold tkl; have := (hz 8).1; omega
  rw [whole, decide_eq_true_iff, hl] at hw
  exact laid_yes cap h hn (by omega) hc (by omega) e8 (by omega) hw.2 (by omega)

theorem size_it' : (Tryz.prog.info? 29).map (·.size) = some 4 := by kernel_rfl

set_option maxHeartbeats 3200000 in
theorem tread_no {ad : Option Addr} {n : Nat} (cap : Nat) (hc : n ≤ cap) {zs : List Int} {w : World} (h : Reads w ad n zs) (hn : n ≤ 1048576) (hw : whole zs = false) :
    Calls Tryz.prog 137 #[.slice ad n cap] w fun e w' => e = .returned (.tuple #[.agg #[.int .i64 0, .int .i64 0, .int .i64 0, .int .i64 0, .float .f64 0, .slice none 0 0, .int .i64 0, .int .i64 0, .float .f64 0, .slice none 0 0], .bool false]) ∧ Below w.heap.size w w' := by
  have HB := hid (Below.alloc1 w (.cells #[.int .i64 0, .int .i64 0, .int .i64 0, .int .i64 0, .float .f64 0, .slice none 0 0, .int .i64 0, .int .i64 0, .float .f64 0, .slice none 0 0] 40))
  have HR := hid (heap_alloc_new w (.cells #[.int .i64 0, .int .i64 0, .int .i64 0, .int .i64 0, .float .f64 0, .slice none 0 0, .int .i64 0, .int .i64 0, .float .f64 0, .slice none 0 0] 40))
  have HZ := hid (alloc_size w (.cells #[.int .i64 0, .int .i64 0, .int .i64 0, .int .i64 0, .float .f64 0, .slice none 0 0, .int .i64 0, .int .i64 0, .float .f64 0, .slice none 0 0] 40))
  have HH := hid (h.alloc (.cells #[.int .i64 0, .int .i64 0, .int .i64 0, .int .i64 0, .float .f64 0, .slice none 0 0, .int .i64 0, .int .i64 0, .float .f64 0, .slice none 0 0] 40))
  clear h
  go_enter Tryz.func137, Tryz.ntmps137
  go_wp2_with fail
  generalize w.alloc (.cells #[.int .i64 0, .int .i64 0, .int .i64 0, .int .i64 0, .float .f64 0, .slice none 0 0, .int .i64 0, .int .i64 0, .float .f64 0, .slice none 0 0] 40) = W0 at *
  refine (laid_false cap hc HH.out hn hw).mono ?_
  rintro e w1 ⟨A, B, a1, n1, c1, a2, n2, c2, rfl, b⟩
  have z := HZ.out
  have t := (b.block w.heap.size (by omega)).trans HR.out
  have bb := HB.out.trans (b.mono HB.out.size)
  have zz := b.size
  have R1 := hid ((heap_alloc_old w1 (.cells #[.int .i64 A, .int .i64 B, .slice a1 n1 c1, .slice a2 n2 c2] 177) (show w.heap.size < w1.heap.size by omega)).trans t)
  have B1 := hid (bb.alloc (by omega) (.cells #[.int .i64 A, .int .i64 B, .slice a1 n1 c1, .slice a2 n2 c2] 177))
  clear z t bb zz b HB HR HZ HH
  go_wp2_with (first
    | (refine wpList_store_row rfl 40 (.tmp 2) (.tmp 23) rfl w.heap.size #[.int .i64 0, .int .i64 0, .int .i64 0, .int .i64 0, .float .f64 0, .slice none 0 0, .int .i64 0, .int .i64 0, .float .f64 0, .slice none 0 0] rfl rfl 40 _ R1.out ?s1 ?s2 ?s3 ?_))
  case s1 => exact size_tup
  case s2 => rfl
  case s3 => simp [Value.oneCell']
  exact bodyPost_ret (results_cell_tmp Tryz.results137 _ _ w.heap.size 40 _ (0, 0) _ rfl (setRow_heap _ _ _ _ _ _ R1.out) Tryz.underlying40 rfl size_tup) rfl ⟨rfl, below_setRow B1.out (Nat.le_refl _) _⟩

set_option maxHeartbeats 6400000 in
theorem tread_lim {b off n : Nat} (cap : Nat) (hc : n ≤ cap) {zs : List Int} {w : World} (h : Reads w (some ⟨b, off, none⟩) n zs) (hn : n ≤ 1048576) (hw : whole zs = true) (hl : limT zs = false) :
    Calls Tryz.prog 137 #[.slice (some ⟨b, off, none⟩) n cap] w fun e w' => e = .returned (.tuple #[.agg #[.int .i64 0, .int .i64 0, .int .i64 0, .int .i64 0, .float .f64 0, .slice none 0 0, .int .i64 0, .int .i64 0, .float .f64 0, .slice none 0 0], .bool false]) ∧ Below w.heap.size w w' := by
  have HB := hid (Below.alloc1 w (.cells #[.int .i64 0, .int .i64 0, .int .i64 0, .int .i64 0, .float .f64 0, .slice none 0 0, .int .i64 0, .int .i64 0, .float .f64 0, .slice none 0 0] 40))
  have HR := hid (heap_alloc_new w (.cells #[.int .i64 0, .int .i64 0, .int .i64 0, .int .i64 0, .float .f64 0, .slice none 0 0, .int .i64 0, .int .i64 0, .float .f64 0, .slice none 0 0] 40))
  have HZ := hid (alloc_size w (.cells #[.int .i64 0, .int .i64 0, .int .i64 0, .int .i64 0, .float .f64 0, .slice none 0 0, .int .i64 0, .int .i64 0, .float .f64 0, .slice none 0 0] 40))
  have HH := hid (h.alloc (.cells #[.int .i64 0, .int .i64 0, .int .i64 0, .int .i64 0, .float .f64 0, .slice none 0 0, .int .i64 0, .int .i64 0, .float .f64 0, .slice none 0 0] 40))
  have hv := whole_10 hw
  have IL : Hid (∀ W : World, Reads W (some ⟨b, off, none⟩) n zs → _) := hid fun W (r : Reads W (some ⟨b, off, none⟩) n zs) => laid_true cap hc r hn hw
  have LL := hid hl
  rw [limT] at LL
  have lk : tkl zs ≤ n := by have := h.len; omega
  obtain ⟨kl, hkl⟩ : ∃ kl, tkl zs = kl := ⟨_, rfl⟩
  obtain ⟨vl, hvl⟩ : ∃ vl, n - (10 + tkl zs) = vl := ⟨_, rfl⟩
  rw [hvl, hkl] at IL
  rw [hkl] at lk
  have hvn : vl ≤ n := by omega
  generalize numOf zs 0 4 = A at *
  generalize numOf zs 4 4 = B at *
  clear h hl hv hkl hvl
  go_enter Tryz.func137, Tryz.ntmps137
  go_wp2_with fail
  generalize w.alloc (.cells #[.int .i64 0, .int .i64 0, .int .i64 0, .int .i64 0, .float .f64 0, .slice none 0 0, .int .i64 0, .int .i64 0, .float .f64 0, .slice none 0 0] 40) = W0 at *
  refine (IL.out W0 HH.out).mono ?_
  rintro e w1 ⟨aK, cK, aV, cV, rfl, RK0, lK, RV0, lV, b⟩
  have z := HZ.out
  have zz := b.size
  have t := (b.block w.heap.size (by omega)).trans HR.out
  have bb := HB.out.trans (b.mono HB.out.size)
  have bA := Below.alloc1 w1 (.cells #[.int .i64 A, .int .i64 B, .slice aK kl cK, .slice aV vl cV] 177)
  have R1 := hid ((heap_alloc_old w1 (.cells #[.int .i64 A, .int .i64 B, .slice aK kl cK, .slice aV vl cV] 177) (show w.heap.size < w1.heap.size by omega)).trans t)
  have B1 := hid (bb.trans (bA.mono (by omega)))
  have HH1 := hid ((HH.out.below b (Nat.le_refl _)).below bA (Nat.le_refl _))
  have hq := heap_alloc_new w1 (.cells #[.int .i64 A, .int .i64 B, .slice aK kl cK, .slice aV vl cV] 177)
  have Q1 := hid hq
  have HS := hid (show w.heap.size < w1.heap.size by omega)
  have HS2 := hid (show w1.heap.size < (w1.alloc (.cells #[.int .i64 A, .int .i64 B, .slice aK kl cK, .slice aV vl cV] 177)).heap.size by rw [alloc_size]; omega)
  have hC : (w1.alloc (.cells #[.int .i64 A, .int .i64 B, .slice aK kl cK, .slice aV vl cV] 177)).cell? ⟨w1.heap.size, 0, none⟩ = some (.int .i64 A) ∧ (w1.alloc (.cells #[.int .i64 A, .int .i64 B, .slice aK kl cK, .slice aV vl cV] 177)).cell? ⟨w1.heap.size, 1, none⟩ = some (.int .i64 B) ∧ (w1.alloc (.cells #[.int .i64 A, .int .i64 B, .slice aK kl cK, .slice aV vl cV] 177)).cell? ⟨w1.heap.size, 2, none⟩ = some (.slice aK kl cK) ∧ (w1.alloc (.cells #[.int .i64 A, .int .i64 B, .slice aK kl cK, .slice aV vl cV] 177)).cell? ⟨w1.heap.size, 3, none⟩ = some (.slice aV vl cV) := by
    refine ⟨?_, ?_, ?_, ?_⟩ <;> (rw [cell_of_row _ _ _ _ _ _ hq]; rfl)
  have HC := hid hC
  clear hC hq z zz t bb b bA HB HR HZ HH IL
  go_wp2_with fail
  generalize w1.alloc (.cells #[.int .i64 A, .int .i64 B, .slice aK kl cK, .slice aV vl cV] 177) = U1 at *
  generalize w1.heap.size = q at *
  refine (impl_inLimits A B _).mono ?_
  rintro e w2 ⟨rfl, b⟩
  rw [LL.out]
  have hs := HS.out
  have hs2 := HS2.out
  replace R1 := hid ((b.block w.heap.size (by omega)).trans R1.out)
  replace B1 := hid (B1.out.trans (b.mono (by omega)))
  replace HC := hid (cells4_below HC.out b)
  replace HH1 := hid (HH1.out.below b (Nat.le_refl _))
  replace HS2 := hid (Nat.lt_of_lt_of_le hs2 b.size)
  clear b LL hs hs2 Q1
  go_wp2_with (first
    | (refine wpList_store_row rfl 40 (.tmp 2) (.tmp 23) rfl w.heap.size #[.int .i64 0, .int .i64 0, .int .i64 0, .int .i64 0, .float .f64 0, .slice none 0 0, .int .i64 0, .int .i64 0, .float .f64 0, .slice none 0 0] rfl rfl 40 _ R1.out ?s1 ?s2 ?s3 ?_))
  case s1 => exact size_tup
  case s2 => rfl
  case s3 => simp [Value.oneCell']
  exact bodyPost_ret (results_cell_tmp Tryz.results137 _ _ w.heap.size 40 _ (0, 0) _ rfl (setRow_heap _ _ _ _ _ _ R1.out) Tryz.underlying40 rfl size_tup) rfl ⟨rfl, below_setRow B1.out (Nat.le_refl _) _⟩

set_option maxHeartbeats 6400000 in
theorem tread_nok {b off n : Nat} (cap : Nat) (hc : n ≤ cap) {zs : List Int} {w : World} (h : Reads w (some ⟨b, off, none⟩) n zs) (hn : n ≤ 1048576) (hw : whole zs = true) (hl : limT zs = true) {RK RN : Int} {RF : Nat} {RZ : List Int} (hk : readR unfK (keyP zs) = (RK, RN, RF, RZ, false)) {SK SN : Int} {SF : Nat} {SZ : List Int} (hr : readR unfV (valP zs) = (SK, SN, SF, SZ, true)) :
    Calls Tryz.prog 137 #[.slice (some ⟨b, off, none⟩) n cap] w fun e w' => e = .returned (.tuple #[.agg #[.int .i64 0, .int .i64 0, .int .i64 0, .int .i64 0, .float .f64 0, .slice none 0 0, .int .i64 0, .int .i64 0, .float .f64 0, .slice none 0 0], .bool false]) ∧ Below w.heap.size w w' := by
  have HB := hid (Below.alloc1 w (.cells #[.int .i64 0, .int .i64 0, .int .i64 0, .int .i64 0, .float .f64 0, .slice none 0 0, .int .i64 0, .int .i64 0, .float .f64 0, .slice none 0 0] 40))
  have HR := hid (heap_alloc_new w (.cells #[.int .i64 0, .int .i64 0, .int .i64 0, .int .i64 0, .float .f64 0, .slice none 0 0, .int .i64 0, .int .i64 0, .float .f64 0, .slice none 0 0] 40))
  have HZ := hid (alloc_size w (.cells #[.int .i64 0, .int .i64 0, .int .i64 0, .int .i64 0, .float .f64 0, .slice none 0 0, .int .i64 0, .int .i64 0, .float .f64 0, .slice none 0 0] 40))
  have HH := hid (h.alloc (.cells #[.int .i64 0, .int .i64 0, .int .i64 0, .int .i64 0, .float .f64 0, .slice none 0 0, .int .i64 0, .int .i64 0, .float .f64 0, .slice none 0 0] 40))
  have hv := whole_10 hw
  have IL : Hid (∀ W : World, Reads W (some ⟨b, off, none⟩) n zs → _) := hid fun W (r : Reads W (some ⟨b, off, none⟩) n zs) => laid_true cap hc r hn hw
  have LL := hid hl
  rw [limT] at LL
  have lk : tkl zs ≤ n := by have := h.len; omega
  obtain ⟨kl, hkl⟩ : ∃ kl, tkl zs = kl := ⟨_, rfl⟩
  obtain ⟨vl, hvl⟩ : ∃ vl, n - (10 + tkl zs) = vl := ⟨_, rfl⟩
  rw [hvl, hkl] at IL
  rw [hkl] at lk
  have hvn : vl ≤ n := by omega
  generalize numOf zs 0 4 = A at *
  generalize numOf zs 4 4 = B at *
  have BK := hid (readR_bd hk (take_bd (drop_bd h.bd 9) _) (by have := h.len; simp [keyP]; omega)).1
  have BV := hid (readR_bd hr (drop_bd h.bd _) (by have := h.len; simp [valP]; omega)).1
  have HK := hid hk
  have HV := hid hr
  clear hk hr
  clear h hl hv hkl hvl
  go_enter Tryz.func137, Tryz.ntmps137
  go_wp2_with fail
  generalize w.alloc (.cells #[.int .i64 0, .int .i64 0, .int .i64 0, .int .i64 0, .float .f64 0, .slice none 0 0, .int .i64 0, .int .i64 0, .float .f64 0, .slice none 0 0] 40) = W0 at *
  refine (IL.out W0 HH.out).mono ?_
  rintro e w1 ⟨aK, cK, aV, cV, rfl, RK0, lK, RV0, lV, b⟩
  have z := HZ.out
  have zz := b.size
  have t := (b.block w.heap.size (by omega)).trans HR.out
  have bb := HB.out.trans (b.mono HB.out.size)
  have bA := Below.alloc1 w1 (.cells #[.int .i64 A, .int .i64 B, .slice aK kl cK, .slice aV vl cV] 177)
  have R1 := hid ((heap_alloc_old w1 (.cells #[.int .i64 A, .int .i64 B, .slice aK kl cK, .slice aV vl cV] 177) (show w.heap.size < w1.heap.size by omega)).trans t)
  have B1 := hid (bb.trans (bA.mono (by omega)))
  have HH1 := hid ((HH.out.below b (Nat.le_refl _)).below bA (Nat.le_refl _))
  have hq := heap_alloc_new w1 (.cells #[.int .i64 A, .int .i64 B, .slice aK kl cK, .slice aV vl cV] 177)
  have Q1 := hid hq
  have HS := hid (show w.heap.size < w1.heap.size by omega)
  have HS2 := hid (show w1.heap.size < (w1.alloc (.cells #[.int .i64 A, .int .i64 B, .slice aK kl cK, .slice aV vl cV] 177)).heap.size by rw [alloc_size]; omega)
  have hC : (w1.alloc (.cells #[.int .i64 A, .int .i64 B, .slice aK kl cK, .slice aV vl cV] 177)).cell? ⟨w1.heap.size, 0, none⟩ = some (.int .i64 A) ∧ (w1.alloc (.cells #[.int .i64 A, .int .i64 B, .slice aK kl cK, .slice aV vl cV] 177)).cell? ⟨w1.heap.size, 1, none⟩ = some (.int .i64 B) ∧ (w1.alloc (.cells #[.int .i64 A, .int .i64 B, .slice aK kl cK, .slice aV vl cV] 177)).cell? ⟨w1.heap.size, 2, none⟩ = some (.slice aK kl cK) ∧ (w1.alloc (.cells #[.int .i64 A, .int .i64 B, .slice aK kl cK, .slice aV vl cV] 177)).cell? ⟨w1.heap.size, 3, none⟩ = some (.slice aV vl cV) := by
    refine ⟨?_, ?_, ?_, ?_⟩ <;> (rw [cell_of_row _ _ _ _ _ _ hq]; rfl)
  have HC := hid hC
  clear hC hq z zz t bb b bA HB HR HZ HH IL
  go_wp2_with fail
  generalize w1.alloc (.cells #[.int .i64 A, .int .i64 B, .slice aK kl cK, .slice aV vl cV] 177) = U1 at *
  generalize w1.heap.size = q at *
  refine (impl_inLimits A B _).mono ?_
  rintro e w2 ⟨rfl, b⟩
  rw [LL.out]
  have hs := HS.out
  have hs2 := HS2.out
  replace R1 := hid ((b.block w.heap.size (by omega)).trans R1.out)
  replace B1 := hid (B1.out.trans (b.mono (by omega)))
  replace HC := hid (cells4_below HC.out b)
  replace HH1 := hid (HH1.out.below b (Nat.le_refl _))
  replace HS2 := hid (Nat.lt_of_lt_of_le hs2 b.size)
  clear b LL hs hs2 Q1
  obtain ⟨c0, c1, c2, c3⟩ := HC.out
  go_wp2_with fail
  clear c0 c1 c2 c3
  refine (impl_KeyRead cK lK (RK0.out _ HH1.out) (by omega) HK.out).mono ?_
  rintro e w3 ⟨f1, u1, rfl, hf1, S1, o, b⟩
  obtain ⟨a1, c1, rfl, r, d1⟩ := Reads.own o BK.out
  have hss1 := fun w a m => run_store Tryz.prog w a (.float .f64 f1) m rfl
  have bA := Below.alloc1 w3 (.cells #[.int .i64 RK, .int .i64 RN, .float .f64 f1, .slice a1 RZ.length c1] 29)
  have hs := HS.out
  have hs2 := HS2.out
  have zz := b.size
  have o1 := o.alloc (.cells #[.int .i64 RK, .int .i64 RN, .float .f64 f1, .slice a1 RZ.length c1] 29)
  have Q2 := hid (heap_alloc_new w3 (.cells #[.int .i64 RK, .int .i64 RN, .float .f64 f1, .slice a1 RZ.length c1] 29))
  replace R1 := hid ((heap_alloc_old w3 (.cells #[.int .i64 RK, .int .i64 RN, .float .f64 f1, .slice a1 RZ.length c1] 29) (show w.heap.size < w3.heap.size by omega)).trans ((b.block w.heap.size (by omega)).trans R1.out))
  replace B1 := hid ((B1.out.trans (b.mono (by omega))).trans (bA.mono (by omega)))
  replace HC := hid (cells4_below (cells4_below HC.out b) bA)
  replace HH1 := hid ((HH1.out.below b (Nat.le_refl _)).below bA (Nat.le_refl _))
  have O1 := hid (owns_base (base' := w.heap.size + 1) o1 (by omega))
  have D1 : Hid (In a1 (w.heap.size + 1) w3.heap.size) := hid (by rcases d1 with h | ⟨g, h, h1, h2⟩; exact .inl h; exact .inr ⟨g, h, by omega, h2⟩)
  have HS3 := hid (show w.heap.size < w3.heap.size by omega)
  have HS4 := hid (show w3.heap.size < (w3.alloc (.cells #[.int .i64 RK, .int .i64 RN, .float .f64 f1, .slice a1 RZ.length c1] 29)).heap.size by rw [alloc_size]; omega)
  clear o o1 b bA r d1 hs hs2 zz
  obtain ⟨c0, c1', c2, c3⟩ := HC.out
  go_wp2_with fail
  clear c0 c1' c2 c3
  generalize w3.alloc (.cells #[.int .i64 RK, .int .i64 RN, .float .f64 f1, .slice a1 RZ.length c1] 29) = U3 at *
  generalize w3.heap.size = q2 at *
  refine (impl_ValueRead cV lV (RV0.out _ HH1.out) (by omega) HV.out).mono ?_
  rintro e w4 ⟨f2, u2, rfl, hf2, S2, o, b⟩
  obtain ⟨a2, c2, rfl, r, d2⟩ := Reads.own o BV.out
  have hss2 := fun w a m => run_store Tryz.prog w a (.float .f64 f2) m rfl
  have bA := Below.alloc1 w4 (.cells #[.int .i64 SK, .int .i64 SN, .float .f64 f2, .slice a2 SZ.length c2] 29)
  have hs := HS3.out
  have hs2 := HS4.out
  have zz := b.size
  have o2 := o.alloc (.cells #[.int .i64 SK, .int .i64 SN, .float .f64 f2, .slice a2 SZ.length c2] 29)
  have Q3 := hid (heap_alloc_new w4 (.cells #[.int .i64 SK, .int .i64 SN, .float .f64 f2, .slice a2 SZ.length c2] 29))
  replace Q2 := hid ((heap_alloc_old w4 (.cells #[.int .i64 SK, .int .i64 SN, .float .f64 f2, .slice a2 SZ.length c2] 29) (show q2 < w4.heap.size by omega)).trans ((b.block q2 (by omega)).trans Q2.out))
  replace R1 := hid ((heap_alloc_old w4 (.cells #[.int .i64 SK, .int .i64 SN, .float .f64 f2, .slice a2 SZ.length c2] 29) (show w.heap.size < w4.heap.size by omega)).trans ((b.block w.heap.size (by omega)).trans R1.out))
  replace B1 := hid ((B1.out.trans (b.mono (by omega))).trans (bA.mono (by omega)))
  replace HC := hid (cells4_below (cells4_below HC.out b) bA)
  replace O1 := hid ((owns_below b (Nat.le_refl _) O1.out).alloc (.cells #[.int .i64 SK, .int .i64 SN, .float .f64 f2, .slice a2 SZ.length c2] 29))
  have O2 := hid (owns_base (base' := w.heap.size + 1) o2 (by omega))
  have D2 : Hid (In a2 q2 w4.heap.size) := hid (by rcases d2 with h | ⟨g, h, h1, h2⟩; exact .inl h; exact .inr ⟨g, h, by omega, h2⟩)
  clear o o2 b bA r d2 hs hs2 zz HH1 HS HS2 HS3 HS4
  obtain ⟨c0, c1', c2', c3⟩ := HC.out
  go_wp2_with (first
    | (refine wpList_store_row rfl 40 (.tmp 2) (.tmp 42) rfl w.heap.size #[.int .i64 0, .int .i64 0, .int .i64 0, .int .i64 0, .float .f64 0, .slice none 0 0, .int .i64 0, .int .i64 0, .float .f64 0, .slice none 0 0] rfl rfl 40 _ R1.out ?s1 ?s2 ?s3 ?_))
  case s1 => exact size_tup
  case s2 => rfl
  case s3 => simp [Value.oneCell']
  exact bodyPost_ret (results_cell_tmp Tryz.results137 _ _ w.heap.size 40 _ (0, 0) _ rfl (setRow_heap _ _ _ _ _ _ R1.out) Tryz.underlying40 rfl size_tup) rfl ⟨rfl, below_setRow B1.out (Nat.le_refl _) _⟩

set_option maxHeartbeats 6400000 in
theorem tread_nokv {b off n : Nat} (cap : Nat) (hc : n ≤ cap) {zs : List Int} {w : World} (h : Reads w (some ⟨b, off, none⟩) n zs) (hn : n ≤ 1048576) (hw : whole zs = true) (hl : limT zs = true) {RK RN : Int} {RF : Nat} {RZ : List Int} (hk : readR unfK (keyP zs) = (RK, RN, RF, RZ, false)) {SK SN : Int} {SF : Nat} {SZ : List Int} (hr : readR unfV (valP zs) = (SK, SN, SF, SZ, false)) :
    Calls Tryz.prog 137 #[.slice (some ⟨b, off, none⟩) n cap] w fun e w' => e = .returned (.tuple #[.agg #[.int .i64 0, .int .i64 0, .int .i64 0, .int .i64 0, .float .f64 0, .slice none 0 0, .int .i64 0, .int .i64 0, .float .f64 0, .slice none 0 0], .bool false]) ∧ Below w.heap.size w w' := by
  have HB := hid (Below.alloc1 w (.cells #[.int .i64 0, .int .i64 0, .int .i64 0, .int .i64 0, .float .f64 0, .slice none 0 0, .int .i64 0, .int .i64 0, .float .f64 0, .slice none 0 0] 40))
  have HR := hid (heap_alloc_new w (.cells #[.int .i64 0, .int .i64 0, .int .i64 0, .int .i64 0, .float .f64 0, .slice none 0 0, .int .i64 0, .int .i64 0, .float .f64 0, .slice none 0 0] 40))
  have HZ := hid (alloc_size w (.cells #[.int .i64 0, .int .i64 0, .int .i64 0, .int .i64 0, .float .f64 0, .slice none 0 0, .int .i64 0, .int .i64 0, .float .f64 0, .slice none 0 0] 40))
  have HH := hid (h.alloc (.cells #[.int .i64 0, .int .i64 0, .int .i64 0, .int .i64 0, .float .f64 0, .slice none 0 0, .int .i64 0, .int .i64 0, .float .f64 0, .slice none 0 0] 40))
  have hv := whole_10 hw
  have IL : Hid (∀ W : World, Reads W (some ⟨b, off, none⟩) n zs → _) := hid fun W (r : Reads W (some ⟨b, off, none⟩) n zs) => laid_true cap hc r hn hw
  have LL := hid hl
  rw [limT] at LL
  have lk : tkl zs ≤ n := by have := h.len; omega
  obtain ⟨kl, hkl⟩ : ∃ kl, tkl zs = kl := ⟨_, rfl⟩
  obtain ⟨vl, hvl⟩ : ∃ vl, n - (10 + tkl zs) = vl := ⟨_, rfl⟩
  rw [hvl, hkl] at IL
  rw [hkl] at lk
  have hvn : vl ≤ n := by omega
  generalize numOf zs 0 4 = A at *
  generalize numOf zs 4 4 = B at *
  have BK := hid (readR_bd hk (take_bd (drop_bd h.bd 9) _) (by have := h.len; simp [keyP]; omega)).1
  have BV := hid (readR_bd hr (drop_bd h.bd _) (by have := h.len; simp [valP]; omega)).1
  have HK := hid hk
  have HV := hid hr
  clear hk hr
  clear h hl hv hkl hvl
  go_enter Tryz.func137, Tryz.ntmps137
  go_wp2_with fail
  generalize w.alloc (.cells #[.int .i64 0, .int .i64 0, .int .i64 0, .int .i64 0, .float .f64 0, .slice none 0 0, .int .i64 0, .int .i64 0, .float .f64 0, .slice none 0 0] 40) = W0 at *
  refine (IL.out W0 HH.out).mono ?_
  rintro e w1 ⟨aK, cK, aV, cV, rfl, RK0, lK, RV0, lV, b⟩
  have z := HZ.out
  have zz := b.size
  have t := (b.block w.heap.size (by omega)).trans HR.out
  have bb := HB.out.trans (b.mono HB.out.size)
  have bA := Below.alloc1 w1 (.cells #[.int .i64 A, .int .i64 B, .slice aK kl cK, .slice aV vl cV] 177)
  have R1 := hid ((heap_alloc_old w1 (.cells #[.int .i64 A, .int .i64 B, .slice aK kl cK, .slice aV vl cV] 177) (show w.heap.size < w1.heap.size by omega)).trans t)
  have B1 := hid (bb.trans (bA.mono (by omega)))
  have HH1 := hid ((HH.out.below b (Nat.le_refl _)).below bA (Nat.le_refl _))
  have hq := heap_alloc_new w1 (.cells #[.int .i64 A, .int .i64 B, .slice aK kl cK, .slice aV vl cV] 177)
  have Q1 := hid hq
  have HS := hid (show w.heap.size < w1.heap.size by omega)
  have HS2 := hid (show w1.heap.size < (w1.alloc (.cells #[.int .i64 A, .int .i64 B, .slice aK kl cK, .slice aV vl cV] 177)).heap.size by rw [alloc_size]; omega)
  have hC : (w1.alloc (.cells #[.int .i64 A, .int .i64 B, .slice aK kl cK, .slice aV vl cV] 177)).cell? ⟨w1.heap.size, 0, none⟩ = some (.int .i64 A) ∧ (w1.alloc (.cells #[.int .i64 A, .int .i64 B, .slice aK kl cK, .slice aV vl cV] 177)).cell? ⟨w1.heap.size, 1, none⟩ = some (.int .i64 B) ∧ (w1.alloc (.cells #[.int .i64 A, .int .i64 B, .slice aK kl cK, .slice aV vl cV] 177)).cell? ⟨w1.heap.size, 2, none⟩ = some (.slice aK kl cK) ∧ (w1.alloc (.cells #[.int .i64 A, .int .i64 B, .slice aK kl cK, .slice aV vl cV] 177)).cell? ⟨w1.heap.size, 3, none⟩ = some (.slice aV vl cV) := by
    refine ⟨?_, ?_, ?_, ?_⟩ <;> (rw [cell_of_row _ _ _ _ _ _ hq]; rfl)
  have HC := hid hC
  clear hC hq z zz t bb b bA HB HR HZ HH IL
  go_wp2_with fail
  generalize w1.alloc (.cells #[.int .i64 A, .int .i64 B, .slice aK kl cK, .slice aV vl cV] 177) = U1 at *
  generalize w1.heap.size = q at *
  refine (impl_inLimits A B _).mono ?_
  rintro e w2 ⟨rfl, b⟩
  rw [LL.out]
  have hs := HS.out
  have hs2 := HS2.out
  replace R1 := hid ((b.block w.heap.size (by omega)).trans R1.out)
  replace B1 := hid (B1.out.trans (b.mono (by omega)))
  replace HC := hid (cells4_below HC.out b)
  replace HH1 := hid (HH1.out.below b (Nat.le_refl _))
  replace HS2 := hid (Nat.lt_of_lt_of_le hs2 b.size)
  clear b LL hs hs2 Q1
  obtain ⟨c0, c1, c2, c3⟩ := HC.out
  go_wp2_with fail
  clear c0 c1 c2 c3
  refine (impl_KeyRead cK lK (RK0.out _ HH1.out) (by omega) HK.out).mono ?_
  rintro e w3 ⟨f1, u1, rfl, hf1, S1, o, b⟩
  obtain ⟨a1, c1, rfl, r, d1⟩ := Reads.own o BK.out
  have hss1 := fun w a m => run_store Tryz.prog w a (.float .f64 f1) m rfl
  have bA := Below.alloc1 w3 (.cells #[.int .i64 RK, .int .i64 RN, .float .f64 f1, .slice a1 RZ.length c1] 29)
  have hs := HS.out
  have hs2 := HS2.out
  have zz := b.size
  have o1 := o.alloc (.cells #[.int .i64 RK, .int .i64 RN, .float .f64 f1, .slice a1 RZ.length c1] 29)
  have Q2 := hid (heap_alloc_new w3 (.cells #[.int .i64 RK, .int .i64 RN, .float .f64 f1, .slice a1 RZ.length c1] 29))
  replace R1 := hid ((heap_alloc_old w3 (.cells #[.int .i64 RK, .int .i64 RN, .float .f64 f1, .slice a1 RZ.length c1] 29) (show w.heap.size < w3.heap.size by omega)).trans ((b.block w.heap.size (by omega)).trans R1.out))
  replace B1 := hid ((B1.out.trans (b.mono (by omega))).trans (bA.mono (by omega)))
  replace HC := hid (cells4_below (cells4_below HC.out b) bA)
  replace HH1 := hid ((HH1.out.below b (Nat.le_refl _)).below bA (Nat.le_refl _))
  have O1 := hid (owns_base (base' := w.heap.size + 1) o1 (by omega))
  have D1 : Hid (In a1 (w.heap.size + 1) w3.heap.size) := hid (by rcases d1 with h | ⟨g, h, h1, h2⟩; exact .inl h; exact .inr ⟨g, h, by omega, h2⟩)
  have HS3 := hid (show w.heap.size < w3.heap.size by omega)
  have HS4 := hid (show w3.heap.size < (w3.alloc (.cells #[.int .i64 RK, .int .i64 RN, .float .f64 f1, .slice a1 RZ.length c1] 29)).heap.size by rw [alloc_size]; omega)
  clear o o1 b bA r d1 hs hs2 zz
  obtain ⟨c0, c1', c2, c3⟩ := HC.out
  go_wp2_with fail
  clear c0 c1' c2 c3
  generalize w3.alloc (.cells #[.int .i64 RK, .int .i64 RN, .float .f64 f1, .slice a1 RZ.length c1] 29) = U3 at *
  generalize w3.heap.size = q2 at *
  refine (impl_ValueRead cV lV (RV0.out _ HH1.out) (by omega) HV.out).mono ?_
  rintro e w4 ⟨f2, u2, rfl, hf2, S2, o, b⟩
  obtain ⟨a2, c2, rfl, r, d2⟩ := Reads.own o BV.out
  have hss2 := fun w a m => run_store Tryz.prog w a (.float .f64 f2) m rfl
  have bA := Below.alloc1 w4 (.cells #[.int .i64 SK, .int .i64 SN, .float .f64 f2, .slice a2 SZ.length c2] 29)
  have hs := HS3.out
  have hs2 := HS4.out
  have zz := b.size
  have o2 := o.alloc (.cells #[.int .i64 SK, .int .i64 SN, .float .f64 f2, .slice a2 SZ.length c2] 29)
  have Q3 := hid (heap_alloc_new w4 (.cells #[.int .i64 SK, .int .i64 SN, .float .f64 f2, .slice a2 SZ.length c2] 29))
  replace Q2 := hid ((heap_alloc_old w4 (.cells #[.int .i64 SK, .int .i64 SN, .float .f64 f2, .slice a2 SZ.length c2] 29) (show q2 < w4.heap.size by omega)).trans ((b.block q2 (by omega)).trans Q2.out))
  replace R1 := hid ((heap_alloc_old w4 (.cells #[.int .i64 SK, .int .i64 SN, .float .f64 f2, .slice a2 SZ.length c2] 29) (show w.heap.size < w4.heap.size by omega)).trans ((b.block w.heap.size (by omega)).trans R1.out))
  replace B1 := hid ((B1.out.trans (b.mono (by omega))).trans (bA.mono (by omega)))
  replace HC := hid (cells4_below (cells4_below HC.out b) bA)
  replace O1 := hid ((owns_below b (Nat.le_refl _) O1.out).alloc (.cells #[.int .i64 SK, .int .i64 SN, .float .f64 f2, .slice a2 SZ.length c2] 29))
  have O2 := hid (owns_base (base' := w.heap.size + 1) o2 (by omega))
  have D2 : Hid (In a2 q2 w4.heap.size) := hid (by rcases d2 with h | ⟨g, h, h1, h2⟩; exact .inl h; exact .inr ⟨g, h, by omega, h2⟩)
  clear o o2 b bA r d2 hs hs2 zz HH1 HS HS2 HS3 HS4
  obtain ⟨c0, c1', c2', c3⟩ := HC.out
  go_wp2_with (first
    | (refine wpList_store_row rfl 40 (.tmp 2) (.tmp 42) rfl w.heap.size #[.int .i64 0, .int .i64 0, .int .i64 0, .int .i64 0, .float .f64 0, .slice none 0 0, .int .i64 0, .int .i64 0, .float .f64 0, .slice none 0 0] rfl rfl 40 _ R1.out ?s1 ?s2 ?s3 ?_))
  case s1 => exact size_tup
  case s2 => rfl
  case s3 => simp [Value.oneCell']
  exact bodyPost_ret (results_cell_tmp Tryz.results137 _ _ w.heap.size 40 _ (0, 0) _ rfl (setRow_heap _ _ _ _ _ _ R1.out) Tryz.underlying40 rfl size_tup) rfl ⟨rfl, below_setRow B1.out (Nat.le_refl _) _⟩

set_option maxHeartbeats 6400000 in
theorem tread_nov {b off n : Nat} (cap : Nat) (hc : n ≤ cap) {zs : List Int} {w : World} (h : Reads w (some ⟨b, off, none⟩) n zs) (hn : n ≤ 1048576) (hw : whole zs = true) (hl : limT zs = true) {RK RN : Int} {RF : Nat} {RZ : List Int} (hk : readR unfK (keyP zs) = (RK, RN, RF, RZ, true)) {SK SN : Int} {SF : Nat} {SZ : List Int} (hr : readR unfV (valP zs) = (SK, SN, SF, SZ, false)) :
    Calls Tryz.prog 137 #[.slice (some ⟨b, off, none⟩) n cap] w fun e w' => e = .returned (.tuple #[.agg #[.int .i64 0, .int .i64 0, .int .i64 0, .int .i64 0, .float .f64 0, .slice none 0 0, .int .i64 0, .int .i64 0, .float .f64 0, .slice none 0 0], .bool false]) ∧ Below w.heap.size w w' := by
  have HB := hid (Below.alloc1 w (.cells #[.int .i64 0, .int .i64 0, .int .i64 0, .int .i64 0, .float .f64 0, .slice none 0 0, .int .i64 0, .int .i64 0, .float .f64 0, .slice none 0 0] 40))
  have HR := hid (heap_alloc_new w (.cells #[.int .i64 0, .int .i64 0, .int .i64 0, .int .i64 0, .float .f64 0, .slice none 0 0, .int .i64 0, .int .i64 0, .float .f64 0, .slice none 0 0] 40))
  have HZ := hid (alloc_size w (.cells #[.int .i64 0, .int .i64 0, .int .i64 0, .int .i64 0, .float .f64 0, .slice none 0 0, .int .i64 0, .int .i64 0, .float .f64 0, .slice none 0 0] 40))
  have HH := hid (h.alloc (.cells #[.int .i64 0, .int .i64 0, .int .i64 0, .int .i64 0, .float .f64 0, .slice none 0 0, .int .i64 0, .int .i64 0, .float .f64 0, .slice none 0 0] 40))
  have hv := whole_10 hw
  have IL : Hid (∀ W : World, Reads W (some ⟨b, off, none⟩) n zs → _) := hid fun W (r : Reads W (some ⟨b, off, none⟩) n zs) => laid_true cap hc r hn hw
  have LL := hid hl
  rw [limT] at LL
  have lk : tkl zs ≤ n := by have := h.len; omega
  obtain ⟨kl, hkl⟩ : ∃ kl, tkl zs = kl := ⟨_, rfl⟩
  obtain ⟨vl, hvl⟩ : ∃ vl, n - (10 + tkl zs) = vl := ⟨_, rfl⟩
  rw [hvl, hkl] at IL
  rw [hkl] at lk
  have hvn : vl ≤ n := by omega
  generalize numOf zs 0 4 = A at *
  generalize numOf zs 4 4 = B at *
  have BK := hid (readR_bd hk (take_bd (drop_bd h.bd 9) _) (by have := h.len; simp [keyP]; omega)).1
  have BV := hid (readR_bd hr (drop_bd h.bd _) (by have := h.len; simp [valP]; omega)).1
  have HK := hid hk
  have HV := hid hr
  clear hk hr
  clear h hl hv hkl hvl
  go_enter Tryz.func137, Tryz.ntmps137
  go_wp2_with fail
  generalize w.alloc (.cells #[.int .i64 0, .int .i64 0, .int .i64 0, .int .i64 0, .float .f64 0, .slice none 0 0, .int .i64 0, .int .i64 0, .float .f64 0, .slice none 0 0] 40) = W0 at *
  refine (IL.out W0 HH.out).mono ?_
  rintro e w1 ⟨aK, cK, aV, cV, rfl, RK0, lK, RV0, lV, b⟩
  have z := HZ.out
  have zz := b.size
  have t := (b.block w.heap.size (by omega)).trans HR.out
  have bb := HB.out.trans (b.mono HB.out.size)
  have bA := Below.alloc1 w1 (.cells #[.int .i64 A, .int .i64 B, .slice aK kl cK, .slice aV vl cV] 177)
  have R1 := hid ((heap_alloc_old w1 (.cells #[.int .i64 A, .int .i64 B, .slice aK kl cK, .slice aV vl cV] 177) (show w.heap.size < w1.heap.size by omega)).trans t)
  have B1 := hid (bb.trans (bA.mono (by omega)))
  have HH1 := hid ((HH.out.below b (Nat.le_refl _)).below bA (Nat.le_refl _))
  have hq := heap_alloc_new w1 (.cells #[.int .i64 A, .int .i64 B, .slice aK kl cK, .slice aV vl cV] 177)
  have Q1 := hid hq
  have HS := hid (show w.heap.size < w1.heap.size by omega)
  have HS2 := hid (show w1.heap.size < (w1.alloc (.cells #[.int .i64 A, .int .i64 B, .slice aK kl cK, .slice aV vl cV] 177)).heap.size by rw [alloc_size]; omega)
  have hC : (w1.alloc (.cells #[.int .i64 A, .int .i64 B, .slice aK kl cK, .slice aV vl cV] 177)).cell? ⟨w1.heap.size, 0, none⟩ = some (.int .i64 A) ∧ (w1.alloc (.cells #[.int .i64 A, .int .i64 B, .slice aK kl cK, .slice aV vl cV] 177)).cell? ⟨w1.heap.size, 1, none⟩ = some (.int .i64 B) ∧ (w1.alloc (.cells #[.int .i64 A, .int .i64 B, .slice aK kl cK, .slice aV vl cV] 177)).cell? ⟨w1.heap.size, 2, none⟩ = some (.slice aK kl cK) ∧ (w1.alloc (.cells #[.int .i64 A, .int .i64 B, .slice aK kl cK, .slice aV vl cV] 177)).cell? ⟨w1.heap.size, 3, none⟩ = some (.slice aV vl cV) := by
    refine ⟨?_, ?_, ?_, ?_⟩ <;> (rw [cell_of_row _ _ _ _ _ _ hq]; rfl)
  have HC := hid hC
  clear hC hq z zz t bb b bA HB HR HZ HH IL
  go_wp2_with fail
  generalize w1.alloc (.cells #[.int .i64 A, .int .i64 B, .slice aK kl cK, .slice aV vl cV] 177) = U1 at *
  generalize w1.heap.size = q at *
  refine (impl_inLimits A B _).mono ?_
  rintro e w2 ⟨rfl, b⟩
  rw [LL.out]
  have hs := HS.out
  have hs2 := HS2.out
  replace R1 := hid ((b.block w.heap.size (by omega)).trans R1.out)
  replace B1 := hid (B1.out.trans (b.mono (by omega)))
  replace HC := hid (cells4_below HC.out b)
  replace HH1 := hid (HH1.out.below b (Nat.le_refl _))
  replace HS2 := hid (Nat.lt_of_lt_of_le hs2 b.size)
  clear b LL hs hs2 Q1
  obtain ⟨c0, c1, c2, c3⟩ := HC.out
  go_wp2_with fail
  clear c0 c1 c2 c3
  refine (impl_KeyRead cK lK (RK0.out _ HH1.out) (by omega) HK.out).mono ?_
  rintro e w3 ⟨f1, u1, rfl, hf1, S1, o, b⟩
  obtain ⟨a1, c1, rfl, r, d1⟩ := Reads.own o BK.out
  have hss1 := fun w a m => run_store Tryz.prog w a (.float .f64 f1) m rfl
  have bA := Below.alloc1 w3 (.cells #[.int .i64 RK, .int .i64 RN, .float .f64 f1, .slice a1 RZ.length c1] 29)
  have hs := HS.out
  have hs2 := HS2.out
  have zz := b.size
  have o1 := o.alloc (.cells #[.int .i64 RK, .int .i64 RN, .float .f64 f1, .slice a1 RZ.length c1] 29)
  have Q2 := hid (heap_alloc_new w3 (.cells #[.int .i64 RK, .int .i64 RN, .float .f64 f1, .slice a1 RZ.length c1] 29))
  replace R1 := hid ((heap_alloc_old w3 (.cells #[.int .i64 RK, .int .i64 RN, .float .f64 f1, .slice a1 RZ.length c1] 29) (show w.heap.size < w3.heap.size by omega)).trans ((b.block w.heap.size (by omega)).trans R1.out))
  replace B1 := hid ((B1.out.trans (b.mono (by omega))).trans (bA.mono (by omega)))
  replace HC := hid (cells4_below (cells4_below HC.out b) bA)
  replace HH1 := hid ((HH1.out.below b (Nat.le_refl _)).below bA (Nat.le_refl _))
  have O1 := hid (owns_base (base' := w.heap.size + 1) o1 (by omega))
  have D1 : Hid (In a1 (w.heap.size + 1) w3.heap.size) := hid (by rcases d1 with h | ⟨g, h, h1, h2⟩; exact .inl h; exact .inr ⟨g, h, by omega, h2⟩)
  have HS3 := hid (show w.heap.size < w3.heap.size by omega)
  have HS4 := hid (show w3.heap.size < (w3.alloc (.cells #[.int .i64 RK, .int .i64 RN, .float .f64 f1, .slice a1 RZ.length c1] 29)).heap.size by rw [alloc_size]; omega)
  clear o o1 b bA r d1 hs hs2 zz
  obtain ⟨c0, c1', c2, c3⟩ := HC.out
  go_wp2_with fail
  clear c0 c1' c2 c3
  generalize w3.alloc (.cells #[.int .i64 RK, .int .i64 RN, .float .f64 f1, .slice a1 RZ.length c1] 29) = U3 at *
  generalize w3.heap.size = q2 at *
  refine (impl_ValueRead cV lV (RV0.out _ HH1.out) (by omega) HV.out).mono ?_
  rintro e w4 ⟨f2, u2, rfl, hf2, S2, o, b⟩
  obtain ⟨a2, c2, rfl, r, d2⟩ := Reads.own o BV.out
  have hss2 := fun w a m => run_store Tryz.prog w a (.float .f64 f2) m rfl
  have bA := Below.alloc1 w4 (.cells #[.int .i64 SK, .int .i64 SN, .float .f64 f2, .slice a2 SZ.length c2] 29)
  have hs := HS3.out
  have hs2 := HS4.out
  have zz := b.size
  have o2 := o.alloc (.cells #[.int .i64 SK, .int .i64 SN, .float .f64 f2, .slice a2 SZ.length c2] 29)
  have Q3 := hid (heap_alloc_new w4 (.cells #[.int .i64 SK, .int .i64 SN, .float .f64 f2, .slice a2 SZ.length c2] 29))
  replace Q2 := hid ((heap_alloc_old w4 (.cells #[.int .i64 SK, .int .i64 SN, .float .f64 f2, .slice a2 SZ.length c2] 29) (show q2 < w4.heap.size by omega)).trans ((b.block q2 (by omega)).trans Q2.out))
  replace R1 := hid ((heap_alloc_old w4 (.cells #[.int .i64 SK, .int .i64 SN, .float .f64 f2, .slice a2 SZ.length c2] 29) (show w.heap.size < w4.heap.size by omega)).trans ((b.block w.heap.size (by omega)).trans R1.out))
  replace B1 := hid ((B1.out.trans (b.mono (by omega))).trans (bA.mono (by omega)))
  replace HC := hid (cells4_below (cells4_below HC.out b) bA)
  replace O1 := hid ((owns_below b (Nat.le_refl _) O1.out).alloc (.cells #[.int .i64 SK, .int .i64 SN, .float .f64 f2, .slice a2 SZ.length c2] 29))
  have O2 := hid (owns_base (base' := w.heap.size + 1) o2 (by omega))
  have D2 : Hid (In a2 q2 w4.heap.size) := hid (by rcases d2 with h | ⟨g, h, h1, h2⟩; exact .inl h; exact .inr ⟨g, h, by omega, h2⟩)
  clear o o2 b bA r d2 hs hs2 zz HH1 HS HS2 HS3 HS4
  obtain ⟨c0, c1', c2', c3⟩ := HC.out
  go_wp2_with (first
    | (refine wpList_store_row rfl 40 (.tmp 2) (.tmp 42) rfl w.heap.size #[.int .i64 0, .int .i64 0, .int .i64 0, .int .i64 0, .float .f64 0, .slice none 0 0, .int .i64 0, .int .i64 0, .float .f64 0, .slice none 0 0] rfl rfl 40 _ R1.out ?s1 ?s2 ?s3 ?_))
  case s1 => exact size_tup
  case s2 => rfl
  case s3 => simp [Value.oneCell']
  exact bodyPost_ret (results_cell_tmp Tryz.results137 _ _ w.heap.size 40 _ (0, 0) _ rfl (setRow_heap _ _ _ _ _ _ R1.out) Tryz.underlying40 rfl size_tup) rfl ⟨rfl, below_setRow B1.out (Nat.le_refl _) _⟩

set_option maxHeartbeats 6400000 in
theorem tread_yes {b off n : Nat} (cap : Nat) (hc : n ≤ cap) {zs : List Int} {w : World} (h : Reads w (some ⟨b, off, none⟩) n zs) (hn : n ≤ 1048576) (hw : whole zs = true) (hl : limT zs = true) {RK RN : Int} {RF : Nat} {RZ : List Int} (hk : readR unfK (keyP zs) = (RK, RN, RF, RZ, true)) {SK SN : Int} {SF : Nat} {SZ : List Int} (hr : readR unfV (valP zs) = (SK, SN, SF, SZ, true)) :
    Calls Tryz.prog 137 #[.slice (some ⟨b, off, none⟩) n cap] w fun e w' => ∃ (f1 : Nat) (v1 : Value) (f2 : Nat) (v2 : Value), e = .returned (.tuple #[.agg #[.int .i64 (numOf zs 0 4), .int .i64 (numOf zs 4 4), .int .i64 RK, .int .i64 RN, .float .f64 f1, v1, .int .i64 SK, .int .i64 SN, .float .f64 f2, v2], .bool true]) ∧ f1 < 18446744073709551616 ∧ f2 < 18446744073709551616 ∧ Hid (Same RF f1) ∧ Hid (Same SF f2) ∧ w'.ownsRow w.heap.size 5 1 v1 RZ.length (bys RZ) ∧ w'.ownsRow w.heap.size 5 1 v2 SZ.length (bys SZ) ∧ Apart v1 v2 ∧ Below w.heap.size w w' := by
  have HB := hid (Below.alloc1 w (.cells #[.int .i64 0, .int .i64 0, .int .i64 0, .int .i64 0, .float .f64 0, .slice none 0 0, .int .i64 0, .int .i64 0, .float .f64 0, .slice none 0 0] 40))
  have HR := hid (heap_alloc_new w (.cells #[.int .i64 0, .int .i64 0, .int .i64 0, .int .i64 0, .float .f64 0, .slice none 0 0, .int .i64 0, .int .i64 0, .float .f64 0, .slice none 0 0] 40))
  have HZ := hid (alloc_size w (.cells #[.int .i64 0, .int .i64 0, .int .i64 0, .int .i64 0, .float .f64 0, .slice none 0 0, .int .i64 0, .int .i64 0, .float .f64 0, .slice none 0 0] 40))
  have HH := hid (h.alloc (.cells #[.int .i64 0, .int .i64 0, .int .i64 0, .int .i64 0, .float .f64 0, .slice none 0 0, .int .i64 0, .int .i64 0, .float .f64 0, .slice none 0 0] 40))
  have hv := whole_10 hw
  have IL : Hid (∀ W : World, Reads W (some ⟨b, off, none⟩) n zs → _) := hid fun W (r : Reads W (some ⟨b, off, none⟩) n zs) => laid_true cap hc r hn hw
  have LL := hid hl
  rw [limT] at LL
  have lk : tkl zs ≤ n := by have := h.len; omega
  obtain ⟨kl, hkl⟩ : ∃ kl, tkl zs = kl := ⟨_, rfl⟩
  obtain ⟨vl, hvl⟩ : ∃ vl, n - (10 + tkl zs) = vl := ⟨_, rfl⟩
  rw [hvl, hkl] at IL
  rw [hkl] at lk
  have hvn : vl ≤ n := by omega
  generalize numOf zs 0 4 = A at *
  generalize numOf zs 4 4 = B at *
  have BK := hid (readR_bd hk (take_bd (drop_bd h.bd 9) _) (by have := h.len; simp [keyP]; omega)).1
  have BV := hid (readR_bd hr (drop_bd h.bd _) (by have := h.len; simp [valP]; omega)).1
  have HK := hid hk
  have HV := hid hr
  clear hk hr
  clear h hl hv hkl hvl
  go_enter Tryz.func137, Tryz.ntmps137
  go_wp2_with fail
  generalize w.alloc (.cells #[.int .i64 0, .int .i64 0, .int .i64 0, .int .i64 0, .float .f64 0, .slice none 0 0, .int .i64 0, .int .i64 0, .float .f64 0, .slice none 0 0] 40) = W0 at *
  refine (IL.out W0 HH.out).mono ?_
  rintro e w1 ⟨aK, cK, aV, cV, rfl, RK0, lK, RV0, lV, b⟩
  have z := HZ.out
  have zz := b.size
  have t := (b.block w.heap.size (by omega)).trans HR.out
  have bb := HB.out.trans (b.mono HB.out.size)
  have bA := Below.alloc1 w1 (.cells #[.int .i64 A, .int .i64 B, .slice aK kl cK, .slice aV vl cV] 177)
  have R1 := hid ((heap_alloc_old w1 (.cells #[.int .i64 A, .int .i64 B, .slice aK kl cK, .slice aV vl cV] 177) (show w.heap.size < w1.heap.size by omega)).trans t)
  have B1 := hid (bb.trans (bA.mono (by omega)))
  have HH1 := hid ((HH.out.below b (Nat.le_refl _)).below bA (Nat.le_refl _))
  have hq := heap_alloc_new w1 (.cells #[.int .i64 A, .int .i64 B, .slice aK kl cK, .slice aV vl cV] 177)
  have Q1 := hid hq
  have HS := hid (show w.heap.size < w1.heap.size by omega)
  have HS2 := hid (show w1.heap.size < (w1.alloc (.cells #[.int .i64 A, .int .i64 B, .slice aK kl cK, .slice aV vl cV] 177)).heap.size by rw [alloc_size]; omega)
  have hC : (w1.alloc (.cells #[.int .i64 A, .int .i64 B, .slice aK kl cK, .slice aV vl cV] 177)).cell? ⟨w1.heap.size, 0, none⟩ = some (.int .i64 A) ∧ (w1.alloc (.cells #[.int .i64 A, .int .i64 B, .slice aK kl cK, .slice aV vl cV] 177)).cell? ⟨w1.heap.size, 1, none⟩ = some (.int .i64 B) ∧ (w1.alloc (.cells #[.int .i64 A, .int .i64 B, .slice aK kl cK, .slice aV vl cV] 177)).cell? ⟨w1.heap.size, 2, none⟩ = some (.slice aK kl cK) ∧ (w1.alloc (.cells #[.int .i64 A, .int .i64 B, .slice aK kl cK, .slice aV vl cV] 177)).cell? ⟨w1.heap.size, 3, none⟩ = some (.slice aV vl cV) := by
    refine ⟨?_, ?_, ?_, ?_⟩ <;> (rw [cell_of_row _ _ _ _ _ _ hq]; rfl)
  have HC := hid hC
  clear hC hq z zz t bb b bA HB HR HZ HH IL
  go_wp2_with fail
  generalize w1.alloc (.cells #[.int .i64 A, .int .i64 B, .slice aK kl cK, .slice aV vl cV] 177) = U1 at *
  generalize w1.heap.size = q at *
  refine (impl_inLimits A B _).mono ?_
  rintro e w2 ⟨rfl, b⟩
  rw [LL.out]
  have hs := HS.out
  have hs2 := HS2.out
  replace R1 := hid ((b.block w.heap.size (by omega)).trans R1.out)
  replace B1 := hid (B1.out.trans (b.mono (by omega)))
  replace HC := hid (cells4_below HC.out b)
  replace HH1 := hid (HH1.out.below b (Nat.le_refl _))
  replace HS2 := hid (Nat.lt_of_lt_of_le hs2 b.size)
  clear b LL hs hs2 Q1
  obtain ⟨c0, c1, c2, c3⟩ := HC.out
  go_wp2_with fail
  clear c0 c1 c2 c3
  refine (impl_KeyRead cK lK (RK0.out _ HH1.out) (by omega) HK.out).mono ?_
  rintro e w3 ⟨f1, u1, rfl, hf1, S1, o, b⟩
  obtain ⟨a1, c1, rfl, r, d1⟩ := Reads.own o BK.out
  have hss1 := fun w a m => run_store Tryz.prog w a (.float .f64 f1) m rfl
  have bA := Below.alloc1 w3 (.cells #[.int .i64 RK, .int .i64 RN, .float .f64 f1, .slice a1 RZ.length c1] 29)
  have hs := HS.out
  have hs2 := HS2.out
  have zz := b.size
  have o1 := o.alloc (.cells #[.int .i64 RK, .int .i64 RN, .float .f64 f1, .slice a1 RZ.length c1] 29)
  have Q2 := hid (heap_alloc_new w3 (.cells #[.int .i64 RK, .int .i64 RN, .float .f64 f1, .slice a1 RZ.length c1] 29))
  replace R1 := hid ((heap_alloc_old w3 (.cells #[.int .i64 RK, .int .i64 RN, .float .f64 f1, .slice a1 RZ.length c1] 29) (show w.heap.size < w3.heap.size by omega)).trans ((b.block w.heap.size (by omega)).trans R1.out))
  replace B1 := hid ((B1.out.trans (b.mono (by omega))).trans (bA.mono (by omega)))
  replace HC := hid (cells4_below (cells4_below HC.out b) bA)
  replace HH1 := hid ((HH1.out.below b (Nat.le_refl _)).below bA (Nat.le_refl _))
  have O1 := hid (owns_base (base' := w.heap.size + 1) o1 (by omega))
  have D1 : Hid (In a1 (w.heap.size + 1) w3.heap.size) := hid (by rcases d1 with h | ⟨g, h, h1, h2⟩; exact .inl h; exact .inr ⟨g, h, by omega, h2⟩)
  have HS3 := hid (show w.heap.size < w3.heap.size by omega)
  have HS4 := hid (show w3.heap.size < (w3.alloc (.cells #[.int .i64 RK, .int .i64 RN, .float .f64 f1, .slice a1 RZ.length c1] 29)).heap.size by rw [alloc_size]; omega)
  clear o o1 b bA r d1 hs hs2 zz
  obtain ⟨c0, c1', c2, c3⟩ := HC.out
  go_wp2_with fail
  clear c0 c1' c2 c3
  generalize w3.alloc (.cells #[.int .i64 RK, .int .i64 RN, .float .f64 f1, .slice a1 RZ.length c1] 29) = U3 at *
  generalize w3.heap.size = q2 at *
  refine (impl_ValueRead cV lV (RV0.out _ HH1.out) (by omega) HV.out).mono ?_
  rintro e w4 ⟨f2, u2, rfl, hf2, S2, o, b⟩
  obtain ⟨a2, c2, rfl, r, d2⟩ := Reads.own o BV.out
  have hss2 := fun w a m => run_store Tryz.prog w a (.float .f64 f2) m rfl
  have bA := Below.alloc1 w4 (.cells #[.int .i64 SK, .int .i64 SN, .float .f64 f2, .slice a2 SZ.length c2] 29)
  have hs := HS3.out
  have hs2 := HS4.out
  have zz := b.size
  have o2 := o.alloc (.cells #[.int .i64 SK, .int .i64 SN, .float .f64 f2, .slice a2 SZ.length c2] 29)
  have Q3 := hid (heap_alloc_new w4 (.cells #[.int .i64 SK, .int .i64 SN, .float .f64 f2, .slice a2 SZ.length c2] 29))
  replace Q2 := hid ((heap_alloc_old w4 (.cells #[.int .i64 SK, .int .i64 SN, .float .f64 f2, .slice a2 SZ.length c2] 29) (show q2 < w4.heap.size by omega)).trans ((b.block q2 (by omega)).trans Q2.out))
  replace R1 := hid ((heap_alloc_old w4 (.cells #[.int .i64 SK, .int .i64 SN, .float .f64 f2, .slice a2 SZ.length c2] 29) (show w.heap.size < w4.heap.size by omega)).trans ((b.block w.heap.size (by omega)).trans R1.out))
  replace B1 := hid ((B1.out.trans (b.mono (by omega))).trans (bA.mono (by omega)))
  replace HC := hid (cells4_below (cells4_below HC.out b) bA)
  replace O1 := hid ((owns_below b (Nat.le_refl _) O1.out).alloc (.cells #[.int .i64 SK, .int .i64 SN, .float .f64 f2, .slice a2 SZ.length c2] 29))
  have O2 := hid (owns_base (base' := w.heap.size + 1) o2 (by omega))
  have D2 : Hid (In a2 q2 w4.heap.size) := hid (by rcases d2 with h | ⟨g, h, h1, h2⟩; exact .inl h; exact .inr ⟨g, h, by omega, h2⟩)
  clear o o2 b bA r d2 hs hs2 zz HH1 HS HS2 HS3 HS4
  obtain ⟨c0, c1', c2', c3⟩ := HC.out
  have cQ2 := row_cells Q2.out
  have cQ3 := row_cells Q3.out
  obtain ⟨k0, k1, k2, k3⟩ := cQ2
  obtain ⟨l0, l1, l2, l3⟩ := cQ3
  go_wp2_with (first
    | (refine wpList_store_row rfl 40 (.tmp 2) (.tmp 51) rfl w.heap.size #[.int .i64 A, .int .i64 B, .int .i64 RK, .int .i64 RN, .float .f64 f1, .slice a1 RZ.length c1, .int .i64 SK, .int .i64 SN, .float .f64 f2, .slice a2 SZ.length c2] rfl rfl 40 _ R1.out ?s1 ?s2 ?s3 ?_))
  case s1 => exact size_tup
  case s2 => rfl
  case s3 => simp [Value.oneCell']
  have G : ∀ (u : World) (R : Array Value), u.grownBy (u.setRow w.heap.size R) (some w.heap.size) := fun u R => ⟨rfl, rfl, rfl, by simp, fun i _ hne => setRow_other _ _ _ _ (fun e => hne (by rw [e]))⟩
  have NE : ∀ (a : Option Addr) (n c : Nat) (u : World) (xs : List Value), u.ownsRow (w.heap.size + 1) 5 1 (.slice a n c) n xs → (Value.slice a n c).ownBlock = none ∨ (Value.slice a n c).ownBlock ≠ some w.heap.size := fun a n c u xs o => .inr fun e => by have := (o.lt _ e).1; omega
  refine bodyPost_ret (results_cell_tmp Tryz.results137 _ _ w.heap.size 40 _ (0, 0) _ rfl (setRow_heap _ _ _ _ _ _ R1.out) Tryz.underlying40 rfl size_tup) rfl ⟨_, _, _, _, rfl, hf1, hf2, S1, S2, owns_base (O1.out.kept (G _ _) (NE _ _ _ _ _ O1.out)) (by omega), owns_base (O2.out.kept (G _ _) (NE _ _ _ _ _ O2.out)) (by omega), D1.out.own D2.out (.inl (Nat.le_refl _)), below_setRow B1.out (Nat.le_refl _) _⟩
end Go.Proofs.YtebhipicfgnajaaGreat
