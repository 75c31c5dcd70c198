/- Texts of this proof in one: Tri Trci SKa SKb Kr SVa. -/
import Derived.Test.YtkfhfjghfadofaaGreatMgc
import Derived.Test.YtkfhfjghfadofaaGreatMgb
import Derived.Deep.RegionHeld3
/- The contract of the program's TupleRead. Conditions: lists of at most 2^20 bytes. -/




namespace Go.Proofs.YtkfhfjghfadofaaGreat
open Go.RowKit
set_option maxRecDepth 100000
theorem laid_false {ad : Option Addr} {n : Nat} (cap : Nat) (hc : n ≤ cap) {zs : List Int} {w : World} (h : Reads w ad n zs) (hn : n ≤ 1048576) (hw : whole zs = false) :
 Calls Tryz.prog 143 #[.slice ad n cap] w fun e w' => ∃ A B a1 n1 c1 a2 n2 c2, e = .returned (.tuple #[.agg #[.int .i64 A, .int .i64 B, .slice a1 n1 c1, .slice a2 n2 c2], .bool false]) ∧ Below w.heap.size w w' := by
 have hl := h.len
 have hz := h.bd
 by_cases h8 : n < 8
 · refine (laid_short ad n cap h8 w).mono ?_
   rintro e w' ⟨rfl, b⟩
   exact ⟨_, _, _, _, _, _, _, _, rfl, b⟩
 obtain ⟨b, off, rfl⟩ := h.pos (by omega)
 by_cases h88 : cap = 8
 · exact laid_no8 cap h hn (by omega) hc h88
 have e8 : zs.getD 8 0 = (tkl zs : Int) := by unfold tkl; have := (hz 8).1; omega
 by_cases h1 : 9 + tkl zs ≤ n
 · by_cases h2 : n - (9 + tkl zs) = 0 ∨ ((n - (9 + tkl zs) : Nat) : Int) - 1 < zs.getD (9 + tkl zs) 0
   · exact laid_noV cap h hn (by omega) hc h88 e8 h1 h2
   · have b9 := hz (9 + tkl zs)
     obtain ⟨t, ht⟩ := Int.eq_ofNat_of_zero_le b9.1
     have hne : ¬ (10 + tkl zs ≤ zs.length ∧ zs.getD (9 + tkl zs) 0 = ((zs.length - (10 + tkl zs) : Nat) : Int)) := of_decide_eq_false hw
     refine laid_noE cap h hn (by omega) hc h88 e8 h1 ht ?_
     rw [ht] at h2 hne
     omega
 · refine laid_noK cap h hn (by omega) hc h88 ?_
   rw [e8]
   omega
theorem laid_true {b off n : Nat} (cap : Nat) (hc : n ≤ cap) {zs : List Int} {w : World} (h : Reads w (some ⟨b, off, none⟩) n zs) (hn : n ≤ 1048576) (hw : whole zs = true) :
 Calls Tryz.prog 143 #[.slice (some ⟨b, off, none⟩) n cap] w fun e w' => ∃ aK cK aV cV, e = .returned (.tuple #[.agg #[.int .i64 (numOf zs 0 4), .int .i64 (numOf zs 4 4), .slice aK (tkl zs) cK, .slice aV (n - (10 + tkl zs)) cV], .bool true]) ∧ Hid (∀ U, Reads U (some ⟨b, off, none⟩) n zs → Reads U aK (tkl zs) (keyP zs)) ∧ tkl zs ≤ cK ∧ Hid (∀ U, Reads U (some ⟨b, off, none⟩) n zs → Reads U aV (n - (10 + tkl zs)) (valP zs)) ∧ n - (10 + tkl zs) ≤ cV ∧ Below w.heap.size w w' := by
 have hl := h.len
 have hz := h.bd
 have e8 : zs.getD 8 0 = (tkl zs : Int) := by unfold tkl; have := (hz 8).1; omega
 rw [whole, decide_eq_true_iff, hl] at hw
 exact laid_yes cap h hn (by omega) hc (by omega) e8 (by omega) hw.2 (by omega)
theorem size_it' : (Tryz.prog.info? 29).map (·.size) = some 4 := by kernel_rfl
set_option maxHeartbeats 3200000 in
theorem tread_no {ad : Option Addr} {n : Nat} (cap : Nat) (hc : n ≤ cap) {zs : List Int} {w : World} (h : Reads w ad n zs) (hn : n ≤ 1048576) (hw : whole zs = false) :
 Calls Tryz.prog 104 #[.slice ad n cap] w fun e w' => e = .returned (.tuple #[.agg #[.int .i64 0, .int .i64 0, .int .i64 0, .int .i64 0, .float .f64 0, .slice none 0 0, .int .i64 0, .int .i64 0, .float .f64 0, .slice none 0 0], .bool false]) ∧ Below w.heap.size w w' := by
 have HB := hid (Below.alloc1 w (.cells #[.int .i64 0, .int .i64 0, .int .i64 0, .int .i64 0, .float .f64 0, .slice none 0 0, .int .i64 0, .int .i64 0, .float .f64 0, .slice none 0 0] 31))
 have HR := hid (heap_alloc_new w (.cells #[.int .i64 0, .int .i64 0, .int .i64 0, .int .i64 0, .float .f64 0, .slice none 0 0, .int .i64 0, .int .i64 0, .float .f64 0, .slice none 0 0] 31))
 have HZ := hid (alloc_size w (.cells #[.int .i64 0, .int .i64 0, .int .i64 0, .int .i64 0, .float .f64 0, .slice none 0 0, .int .i64 0, .int .i64 0, .float .f64 0, .slice none 0 0] 31))
 have HH := hid (h.alloc (.cells #[.int .i64 0, .int .i64 0, .int .i64 0, .int .i64 0, .float .f64 0, .slice none 0 0, .int .i64 0, .int .i64 0, .float .f64 0, .slice none 0 0] 31))
 clear h
 go_enter Tryz.func104, Tryz.ntmps104
 go_wp2_with fail
 generalize w.alloc (.cells #[.int .i64 0, .int .i64 0, .int .i64 0, .int .i64 0, .float .f64 0, .slice none 0 0, .int .i64 0, .int .i64 0, .float .f64 0, .slice none 0 0] 31) = W0 at *
 refine (laid_false cap hc HH.out hn hw).mono ?_
 rintro e w1 ⟨A, B, a1, n1, c1, a2, n2, c2, rfl, b⟩
 have z := HZ.out
 have t := (b.block w.heap.size (by omega)).trans HR.out
 have bb := HB.out.trans (b.mono HB.out.size)
 have zz := b.size
 have R1 := hid ((heap_alloc_old w1 (.cells #[.int .i64 A, .int .i64 B, .slice a1 n1 c1, .slice a2 n2 c2] 162) (show w.heap.size < w1.heap.size by omega)).trans t)
 have B1 := hid (bb.alloc (by omega) (.cells #[.int .i64 A, .int .i64 B, .slice a1 n1 c1, .slice a2 n2 c2] 162))
 clear z t bb zz b HB HR HZ HH
 go_wp2_with (first
  | (refine wpList_store_row rfl 31 (.tmp 2) (.tmp 23) rfl w.heap.size #[.int .i64 0, .int .i64 0, .int .i64 0, .int .i64 0, .float .f64 0, .slice none 0 0, .int .i64 0, .int .i64 0, .float .f64 0, .slice none 0 0] rfl rfl 31 _ R1.out ?s1 ?s2 ?s3 ?_))
 case s1 => exact size_tup
 case s2 => rfl
 case s3 => simp [Value.oneCell']
 exact bodyPost_ret (results_cell_tmp Tryz.results104 _ _ w.heap.size 31 _ (0, 0) _ rfl (setRow_heap _ _ _ _ _ _ R1.out) Tryz.underlying31 rfl size_tup) rfl ⟨rfl, below_setRow B1.out (Nat.le_refl _) _⟩
set_option maxHeartbeats 6400000 in
theorem tread_lim {b off n : Nat} (cap : Nat) (hc : n ≤ cap) {zs : List Int} {w : World} (h : Reads w (some ⟨b, off, none⟩) n zs) (hn : n ≤ 1048576) (hw : whole zs = true) (hl : limT zs = false) :
 Calls Tryz.prog 104 #[.slice (some ⟨b, off, none⟩) n cap] w fun e w' => e = .returned (.tuple #[.agg #[.int .i64 0, .int .i64 0, .int .i64 0, .int .i64 0, .float .f64 0, .slice none 0 0, .int .i64 0, .int .i64 0, .float .f64 0, .slice none 0 0], .bool false]) ∧ Below w.heap.size w w' := by
 have HB := hid (Below.alloc1 w (.cells #[.int .i64 0, .int .i64 0, .int .i64 0, .int .i64 0, .float .f64 0, .slice none 0 0, .int .i64 0, .int .i64 0, .float .f64 0, .slice none 0 0] 31))
 have HR := hid (heap_alloc_new w (.cells #[.int .i64 0, .int .i64 0, .int .i64 0, .int .i64 0, .float .f64 0, .slice none 0 0, .int .i64 0, .int .i64 0, .float .f64 0, .slice none 0 0] 31))
 have HZ := hid (alloc_size w (.cells #[.int .i64 0, .int .i64 0, .int .i64 0, .int .i64 0, .float .f64 0, .slice none 0 0, .int .i64 0, .int .i64 0, .float .f64 0, .slice none 0 0] 31))
 have HH := hid (h.alloc (.cells #[.int .i64 0, .int .i64 0, .int .i64 0, .int .i64 0, .float .f64 0, .slice none 0 0, .int .i64 0, .int .i64 0, .float .f64 0, .slice none 0 0] 31))
 have hv := whole_10 hw
 have IL : Hid (∀ W : World, Reads W (some ⟨b, off, none⟩) n zs → _) := hid fun W (r : Reads W (some ⟨b, off, none⟩) n zs) => laid_true cap hc r hn hw
 have LL := hid hl
 rw [limT] at LL
 have lk : tkl zs ≤ n := by have := h.len; omega
 obtain ⟨kl, hkl⟩ : ∃ kl, tkl zs = kl := ⟨_, rfl⟩
 obtain ⟨vl, hvl⟩ : ∃ vl, n - (10 + tkl zs) = vl := ⟨_, rfl⟩
 rw [hvl, hkl] at IL
 rw [hkl] at lk
 have hvn : vl ≤ n := by omega
 generalize numOf zs 0 4 = A at *
 generalize numOf zs 4 4 = B at *
 clear h hl hv hkl hvl
 go_enter Tryz.func104, Tryz.ntmps104
 go_wp2_with fail
 generalize w.alloc (.cells #[.int .i64 0, .int .i64 0, .int .i64 0, .int .i64 0, .float .f64 0, .slice none 0 0, .int .i64 0, .int .i64 0, .float .f64 0, .slice none 0 0] 31) = W0 at *
 refine (IL.out W0 HH.out).mono ?_
 rintro e w1 ⟨aK, cK, aV, cV, rfl, RK0, lK, RV0, lV, b⟩
 have z := HZ.out
 have zz := b.size
 have t := (b.block w.heap.size (by omega)).trans HR.out
 have bb := HB.out.trans (b.mono HB.out.size)
 have bA := Below.alloc1 w1 (.cells #[.int .i64 A, .int .i64 B, .slice aK kl cK, .slice aV vl cV] 162)
 have R1 := hid ((heap_alloc_old w1 (.cells #[.int .i64 A, .int .i64 B, .slice aK kl cK, .slice aV vl cV] 162) (show w.heap.size < w1.heap.size by omega)).trans t)
 have B1 := hid (bb.trans (bA.mono (by omega)))
 have HH1 := hid ((HH.out.below b (Nat.le_refl _)).below bA (Nat.le_refl _))
 have hq := heap_alloc_new w1 (.cells #[.int .i64 A, .int .i64 B, .slice aK kl cK, .slice aV vl cV] 162)
 have Q1 := hid hq
 have HS := hid (show w.heap.size < w1.heap.size by omega)
 have HS2 := hid (show w1.heap.size < (w1.alloc (.cells #[.int .i64 A, .int .i64 B, .slice aK kl cK, .slice aV vl cV] 162)).heap.size by rw [alloc_size]; omega)
 have hC : (w1.alloc (.cells #[.int .i64 A, .int .i64 B, .slice aK kl cK, .slice aV vl cV] 162)).cell? ⟨w1.heap.size, 0, none⟩ = some (.int .i64 A) ∧ (w1.alloc (.cells #[.int .i64 A, .int .i64 B, .slice aK kl cK, .slice aV vl cV] 162)).cell? ⟨w1.heap.size, 1, none⟩ = some (.int .i64 B) ∧ (w1.alloc (.cells #[.int .i64 A, .int .i64 B, .slice aK kl cK, .slice aV vl cV] 162)).cell? ⟨w1.heap.size, 2, none⟩ = some (.slice aK kl cK) ∧ (w1.alloc (.cells #[.int .i64 A, .int .i64 B, .slice aK kl cK, .slice aV vl cV] 162)).cell? ⟨w1.heap.size, 3, none⟩ = some (.slice aV vl cV) := by
  refine ⟨?_, ?_, ?_, ?_⟩ <;> (rw [cell_of_row _ _ _ _ _ _ hq]; rfl)
 have HC := hid hC
 clear hC hq z zz t bb b bA HB HR HZ HH IL
 go_wp2_with fail
 generalize w1.alloc (.cells #[.int .i64 A, .int .i64 B, .slice aK kl cK, .slice aV vl cV] 162) = U1 at *
 generalize w1.heap.size = q at *
 refine (impl_inLimits A B _).mono ?_
 rintro e w2 ⟨rfl, b⟩
 rw [LL.out]
 have hs := HS.out
 have hs2 := HS2.out
 replace R1 := hid ((b.block w.heap.size (by omega)).trans R1.out)
 replace B1 := hid (B1.out.trans (b.mono (by omega)))
 replace HC := hid (cells4_below HC.out b)
 replace HH1 := hid (HH1.out.below b (Nat.le_refl _))
 replace HS2 := hid (Nat.lt_of_lt_of_le hs2 b.size)
 clear b LL hs hs2 Q1
 go_wp2_with (first
  | (refine wpList_store_row rfl 31 (.tmp 2) (.tmp 23) rfl w.heap.size #[.int .i64 0, .int .i64 0, .int .i64 0, .int .i64 0, .float .f64 0, .slice none 0 0, .int .i64 0, .int .i64 0, .float .f64 0, .slice none 0 0] rfl rfl 31 _ R1.out ?s1 ?s2 ?s3 ?_))
 case s1 => exact size_tup
 case s2 => rfl
 case s3 => simp [Value.oneCell']
 exact bodyPost_ret (results_cell_tmp Tryz.results104 _ _ w.heap.size 31 _ (0, 0) _ rfl (setRow_heap _ _ _ _ _ _ R1.out) Tryz.underlying31 rfl size_tup) rfl ⟨rfl, below_setRow B1.out (Nat.le_refl _) _⟩
set_option maxHeartbeats 6400000 in
theorem tread_nok {b off n : Nat} (cap : Nat) (hc : n ≤ cap) {zs : List Int} {w : World} (h : Reads w (some ⟨b, off, none⟩) n zs) (hn : n ≤ 1048576) (hw : whole zs = true) (hl : limT zs = true) {RK RN : Int} {RF : Nat} {RZ : List Int} (hk : readR unfK (keyP zs) = (RK, RN, RF, RZ, false)) {SK SN : Int} {SF : Nat} {SZ : List Int} (hr : readR unfV (valP zs) = (SK, SN, SF, SZ, true)) :
 Calls Tryz.prog 104 #[.slice (some ⟨b, off, none⟩) n cap] w fun e w' => e = .returned (.tuple #[.agg #[.int .i64 0, .int .i64 0, .int .i64 0, .int .i64 0, .float .f64 0, .slice none 0 0, .int .i64 0, .int .i64 0, .float .f64 0, .slice none 0 0], .bool false]) ∧ Below w.heap.size w w' := by
 have HB := hid (Below.alloc1 w (.cells #[.int .i64 0, .int .i64 0, .int .i64 0, .int .i64 0, .float .f64 0, .slice none 0 0, .int .i64 0, .int .i64 0, .float .f64 0, .slice none 0 0] 31))
 have HR := hid (heap_alloc_new w (.cells #[.int .i64 0, .int .i64 0, .int .i64 0, .int .i64 0, .float .f64 0, .slice none 0 0, .int .i64 0, .int .i64 0, .float .f64 0, .slice none 0 0] 31))
 have HZ := hid (alloc_size w (.cells #[.int .i64 0, .int .i64 0, .int .i64 0, .int .i64 0, .float .f64 0, .slice none 0 0, .int .i64 0, .int .i64 0, .float .f64 0, .slice none 0 0] 31))
 have HH := hid (h.alloc (.cells #[.int .i64 0, .int .i64 0, .int .i64 0, .int .i64 0, .float .f64 0, .slice none 0 0, .int .i64 0, .int .i64 0, .float .f64 0, .slice none 0 0] 31))
 have hv := whole_10 hw
 have IL : Hid (∀ W : World, Reads W (some ⟨b, off, none⟩) n zs → _) := hid fun W (r : Reads W (some ⟨b, off, none⟩) n zs) => laid_true cap hc r hn hw
 have LL := hid hl
 rw [limT] at LL
 have lk : tkl zs ≤ n := by have := h.len; omega
 obtain ⟨kl, hkl⟩ : ∃ kl, tkl zs = kl := ⟨_, rfl⟩
 obtain ⟨vl, hvl⟩ : ∃ vl, n - (10 + tkl zs) = vl := ⟨_, rfl⟩
 rw [hvl, hkl] at IL
 rw [hkl] at lk
 have hvn : vl ≤ n := by omega
 generalize numOf zs 0 4 = A at *
 generalize numOf zs 4 4 = B at *
 have BK := hid (readR_bd hk (take_bd (drop_bd h.bd 9) _) (by have := h.len; simp [keyP]; omega)).1
 have BV := hid (readR_bd hr (drop_bd h.bd _) (by have := h.len; simp [valP]; omega)).1
 have HK := hid hk
 have HV := hid hr
 clear hk hr
 clear h hl hv hkl hvl
 go_enter Tryz.func104, Tryz.ntmps104
 go_wp2_with fail
 generalize w.alloc (.cells #[.int .i64 0, .int .i64 0, .int .i64 0, .int .i64 0, .float .f64 0, .slice none 0 0, .int .i64 0, .int .i64 0, .float .f64 0, .slice none 0 0] 31) = W0 at *
 refine (IL.out W0 HH.out).mono ?_
 rintro e w1 ⟨aK, cK, aV, cV, rfl, RK0, lK, RV0, lV, b⟩
 have z := HZ.out
 have zz := b.size
 have t := (b.block w.heap.size (by omega)).trans HR.out
 have bb := HB.out.trans (b.mono HB.out.size)
 have bA := Below.alloc1 w1 (.cells #[.int .i64 A, .int .i64 B, .slice aK kl cK, .slice aV vl cV] 162)
 have R1 := hid ((heap_alloc_old w1 (.cells #[.int .i64 A, .int .i64 B, .slice aK kl cK, .slice aV vl cV] 162) (show w.heap.size < w1.heap.size by omega)).trans t)
 have B1 := hid (bb.trans (bA.mono (by omega)))
 have HH1 := hid ((HH.out.below b (Nat.le_refl _)).below bA (Nat.le_refl _))
 have hq := heap_alloc_new w1 (.cells #[.int .i64 A, .int .i64 B, .slice aK kl cK, .slice aV vl cV] 162)
 have Q1 := hid hq
 have HS := hid (show w.heap.size < w1.heap.size by omega)
 have HS2 := hid (show w1.heap.size < (w1.alloc (.cells #[.int .i64 A, .int .i64 B, .slice aK kl cK, .slice aV vl cV] 162)).heap.size by rw [alloc_size]; omega)
 have hC : (w1.alloc (.cells #[.int .i64 A, .int .i64 B, .slice aK kl cK, .slice aV vl cV] 162)).cell? ⟨w1.heap.size, 0, none⟩ = some (.int .i64 A) ∧ (w1.alloc (.cells #[.int .i64 A, .int .i64 B, .slice aK kl cK, .slice aV vl cV] 162)).cell? ⟨w1.heap.size, 1, none⟩ = some (.int .i64 B) ∧ (w1.alloc (.cells #[.int .i64 A, .int .i64 B, .slice aK kl cK, .slice aV vl cV] 162)).cell? ⟨w1.heap.size, 2, none⟩ = some (.slice aK kl cK) ∧ (w1.alloc (.cells #[.int .i64 A, .int .i64 B, .slice aK kl cK, .slice aV vl cV] 162)).cell? ⟨w1.heap.size, 3, none⟩ = some (.slice aV vl cV) := by
  refine ⟨?_, ?_, ?_, ?_⟩ <;> (rw [cell_of_row _ _ _ _ _ _ hq]; rfl)
 have HC := hid hC
 clear hC hq z zz t bb b bA HB HR HZ HH IL
 go_wp2_with fail
 generalize w1.alloc (.cells #[.int .i64 A, .int .i64 B, .slice aK kl cK, .slice aV vl cV] 162) = U1 at *
 generalize w1.heap.size = q at *
 refine (impl_inLimits A B _).mono ?_
 rintro e w2 ⟨rfl, b⟩
 rw [LL.out]
 have hs := HS.out
 have hs2 := HS2.out
 replace R1 := hid ((b.block w.heap.size (by omega)).trans R1.out)
 replace B1 := hid (B1.out.trans (b.mono (by omega)))
 replace HC := hid (cells4_below HC.out b)
 replace HH1 := hid (HH1.out.below b (Nat.le_refl _))
 replace HS2 := hid (Nat.lt_of_lt_of_le hs2 b.size)
 clear b LL hs hs2 Q1
 obtain ⟨c0, c1, c2, c3⟩ := HC.out
 go_wp2_with fail
 clear c0 c1 c2 c3
 refine (impl_KeyRead cK lK (RK0.out _ HH1.out) (by omega) HK.out).mono ?_
 rintro e w3 ⟨f1, u1, rfl, hf1, S1, o, b⟩
 obtain ⟨a1, c1, rfl, r, d1⟩ := Reads.own o BK.out
 have hss1 := fun w a m => run_store Tryz.prog w a (.float .f64 f1) m rfl
 have bA := Below.alloc1 w3 (.cells #[.int .i64 RK, .int .i64 RN, .float .f64 f1, .slice a1 RZ.length c1] 29)
 have hs := HS.out
 have hs2 := HS2.out
 have zz := b.size
 have o1 := o.alloc (.cells #[.int .i64 RK, .int .i64 RN, .float .f64 f1, .slice a1 RZ.length c1] 29)
 have Q2 := hid (heap_alloc_new w3 (.cells #[.int .i64 RK, .int .i64 RN, .float .f64 f1, .slice a1 RZ.length c1] 29))
 replace R1 := hid ((heap_alloc_old w3 (.cells #[.int .i64 RK, .int .i64 RN, .float .f64 f1, .slice a1 RZ.length c1] 29) (show w.heap.size < w3.heap.size by omega)).trans ((b.block w.heap.size (by omega)).trans R1.out))
 replace B1 := hid ((B1.out.trans (b.mono (by omega))).trans (bA.mono (by omega)))
 replace HC := hid (cells4_below (cells4_below HC.out b) bA)
 replace HH1 := hid ((HH1.out.below b (Nat.le_refl _)).below bA (Nat.le_refl _))
 have O1 := hid (owns_base (base' := w.heap.size + 1) o1 (by omega))
 have D1 : Hid (In a1 (w.heap.size + 1) w3.heap.size) := hid (by rcases d1 with h | ⟨g, h, h1, h2⟩; exact .inl h; exact .inr ⟨g, h, by omega, h2⟩)
 have HS3 := hid (show w.heap.size < w3.heap.size by omega)
 have HS4 := hid (show w3.heap.size < (w3.alloc (.cells #[.int .i64 RK, .int .i64 RN, .float .f64 f1, .slice a1 RZ.length c1] 29)).heap.size by rw [alloc_size]; omega)
 clear o o1 b bA r d1 hs hs2 zz
 obtain ⟨c0, c1', c2, c3⟩ := HC.out
 go_wp2_with fail
 clear c0 c1' c2 c3
 generalize w3.alloc (.cells #[.int .i64 RK, .int .i64 RN, .float .f64 f1, .slice a1 RZ.length c1] 29) = U3 at *
 generalize w3.heap.size = q2 at *
 refine (impl_ValueRead cV lV (RV0.out _ HH1.out) (by omega) HV.out).mono ?_
 rintro e w4 ⟨f2, u2, rfl, hf2, S2, o, b⟩
 obtain ⟨a2, c2, rfl, r, d2⟩ := Reads.own o BV.out
 have hss2 := fun w a m => run_store Tryz.prog w a (.float .f64 f2) m rfl
 have bA := Below.alloc1 w4 (.cells #[.int .i64 SK, .int .i64 SN, .float .f64 f2, .slice a2 SZ.length c2] 29)
 have hs := HS3.out
 have hs2 := HS4.out
 have zz := b.size
 have o2 := o.alloc (.cells #[.int .i64 SK, .int .i64 SN, .float .f64 f2, .slice a2 SZ.length c2] 29)
 have Q3 := hid (heap_alloc_new w4 (.cells #[.int .i64 SK, .int .i64 SN, .float .f64 f2, .slice a2 SZ.length c2] 29))
 replace Q2 := hid ((heap_alloc_old w4 (.cells #[.int .i64 SK, .int .i64 SN, .float .f64 f2, .slice a2 SZ.length c2] 29) (show q2 < w4.heap.size by omega)).trans ((b.block q2 (by omega)).trans Q2.out))
 replace R1 := hid ((heap_alloc_old w4 (.cells #[.int .i64 SK, .int .i64 SN, .float .f64 f2, .slice a2 SZ.length c2] 29) (show w.heap.size < w4.heap.size by omega)).trans ((b.block w.heap.size (by omega)).trans R1.out))
 replace B1 := hid ((B1.out.trans (b.mono (by omega))).trans (bA.mono (by omega)))
 replace HC := hid (cells4_below (cells4_below HC.out b) bA)
 replace O1 := hid ((owns_below b (Nat.le_refl _) O1.out).alloc (.cells #[.int .i64 SK, .int .i64 SN, .float .f64 f2, .slice a2 SZ.length c2] 29))
 have O2 := hid (owns_base (base' := w.heap.size + 1) o2 (by omega))
 have D2 : Hid (In a2 q2 w4.heap.size) := hid (by rcases d2 with h | ⟨g, h, h1, h2⟩; exact .inl h; exact .inr ⟨g, h, by omega, h2⟩)
 clear o o2 b bA r d2 hs hs2 zz HH1 HS HS2 HS3 HS4
 obtain ⟨c0, c1', c2', c3⟩ := HC.out
 go_wp2_with (first
  | (refine wpList_store_row rfl 31 (.tmp 2) (.tmp 42) rfl w.heap.size #[.int .i64 0, .int .i64 0, .int .i64 0, .int .i64 0, .float .f64 0, .slice none 0 0, .int .i64 0, .int .i64 0, .float .f64 0, .slice none 0 0] rfl rfl 31 _ R1.out ?s1 ?s2 ?s3 ?_))
 case s1 => exact size_tup
 case s2 => rfl
 case s3 => simp [Value.oneCell']
 exact bodyPost_ret (results_cell_tmp Tryz.results104 _ _ w.heap.size 31 _ (0, 0) _ rfl (setRow_heap _ _ _ _ _ _ R1.out) Tryz.underlying31 rfl size_tup) rfl ⟨rfl, below_setRow B1.out (Nat.le_refl _) _⟩
set_option maxHeartbeats 6400000 in
theorem tread_nokv {b off n : Nat} (cap : Nat) (hc : n ≤ cap) {zs : List Int} {w : World} (h : Reads w (some ⟨b, off, none⟩) n zs) (hn : n ≤ 1048576) (hw : whole zs = true) (hl : limT zs = true) {RK RN : Int} {RF : Nat} {RZ : List Int} (hk : readR unfK (keyP zs) = (RK, RN, RF, RZ, false)) {SK SN : Int} {SF : Nat} {SZ : List Int} (hr : readR unfV (valP zs) = (SK, SN, SF, SZ, false)) :
 Calls Tryz.prog 104 #[.slice (some ⟨b, off, none⟩) n cap] w fun e w' => e = .returned (.tuple #[.agg #[.int .i64 0, .int .i64 0, .int .i64 0, .int .i64 0, .float .f64 0, .slice none 0 0, .int .i64 0, .int .i64 0, .float .f64 0, .slice none 0 0], .bool false]) ∧ Below w.heap.size w w' := by
 have HB := hid (Below.alloc1 w (.cells #[.int .i64 0, .int .i64 0, .int .i64 0, .int .i64 0, .float .f64 0, .slice none 0 0, .int .i64 0, .int .i64 0, .float .f64 0, .slice none 0 0] 31))
 have HR := hid (heap_alloc_new w (.cells #[.int .i64 0, .int .i64 0, .int .i64 0, .int .i64 0, .float .f64 0, .slice none 0 0, .int .i64 0, .int .i64 0, .float .f64 0, .slice none 0 0] 31))
 have HZ := hid (alloc_size w (.cells #[.int .i64 0, .int .i64 0, .int .i64 0, .int .i64 0, .float .f64 0, .slice none 0 0, .int .i64 0, .int .i64 0, .float .f64 0, .slice none 0 0] 31))
 have HH := hid (h.alloc (.cells #[.int .i64 0, .int .i64 0, .int .i64 0, .int .i64 0, .float .f64 0, .slice none 0 0, .int .i64 0, .int .i64 0, .float .f64 0, .slice none 0 0] 31))
 have hv := whole_10 hw
 have IL : Hid (∀ W : World, Reads W (some ⟨b, off, none⟩) n zs → _) := hid fun W (r : Reads W (some ⟨b, off, none⟩) n zs) => laid_true cap hc r hn hw
 have LL := hid hl
 rw [limT] at LL
 have lk : tkl zs ≤ n := by have := h.len; omega
 obtain ⟨kl, hkl⟩ : ∃ kl, tkl zs = kl := ⟨_, rfl⟩
 obtain ⟨vl, hvl⟩ : ∃ vl, n - (10 + tkl zs) = vl := ⟨_, rfl⟩
 rw [hvl, hkl] at IL
 rw [hkl] at lk
 have hvn : vl ≤ n := by omega
 generalize numOf zs 0 4 = A at *
 generalize numOf zs 4 4 = B at *
 have BK := hid (readR_bd hk (take_bd (drop_bd h.bd 9) _) (by have := h.len; simp [keyP]; omega)).1
 have BV := hid (readR_bd hr (drop_bd h.bd _) (by have := h.len; simp [valP]; omega)).1
 have HK := hid hk
 have HV := hid hr
 clear hk hr
 clear h hl hv hkl hvl
 go_enter Tryz.func104, Tryz.ntmps104
 go_wp2_with fail
 generalize w.alloc (.cells #[.int .i64 0, .int .i64 0, .int .i64 0, .int .i64 0, .float .f64 0, .slice none 0 0, .int .i64 0, .int .i64 0, .float .f64 0, .slice none 0 0] 31) = W0 at *
 refine (IL.out W0 HH.out).mono ?_
 rintro e w1 ⟨aK, cK, aV, cV, rfl, RK0, lK, RV0, lV, b⟩
 have z := HZ.out
 have zz := b.size
 have t := (b.block w.heap.size (by omega)).trans HR.out
 have bb := HB.out.trans (b.mono HB.out.size)
 have bA := Below.alloc1 w1 (.cells #[.int .i64 A, .int .i64 B, .slice aK kl cK, .slice aV vl cV] 162)
 have R1 := hid ((heap_alloc_old w1 (.cells #[.int .i64 A, .int .i64 B, .slice aK kl cK, .slice aV vl cV] 162) (show w.heap.size < w1.heap.size by omega)).trans t)
 have B1 := hid (bb.trans (bA.mono (by omega)))
 have HH1 := hid ((HH.out.below b (Nat.le_refl _)).below bA (Nat.le_refl _))
 have hq := heap_alloc_new w1 (.cells #[.int .i64 A, .int .i64 B, .slice aK kl cK, .slice aV vl cV] 162)
 have Q1 := hid hq
 have HS := hid (show w.heap.size < w1.heap.size by omega)
 have HS2 := hid (show w1.heap.size < (w1.alloc (.cells #[.int .i64 A, .int .i64 B, .slice aK kl cK, .slice aV vl cV] 162)).heap.size by rw [alloc_size]; omega)
 have hC : (w1.alloc (.cells #[.int .i64 A, .int .i64 B, .slice aK kl cK, .slice aV vl cV] 162)).cell? ⟨w1.heap.size, 0, none⟩ = some (.int .i64 A) ∧ (w1.alloc (.cells #[.int .i64 A, .int .i64 B, .slice aK kl cK, .slice aV vl cV] 162)).cell? ⟨w1.heap.size, 1, none⟩ = some (.int .i64 B) ∧ (w1.alloc (.cells #[.int .i64 A, .int .i64 B, .slice aK kl cK, .slice aV vl cV] 162)).cell? ⟨w1.heap.size, 2, none⟩ = some (.slice aK kl cK) ∧ (w1.alloc (.cells #[.int .i64 A, .int .i64 B, .slice aK kl cK, .slice aV vl cV] 162)).cell? ⟨w1.heap.size, 3, none⟩ = some (.slice aV vl cV) := by
  refine ⟨?_, ?_, ?_, ?_⟩ <;> (rw [cell_of_row _ _ _ _ _ _ hq]; rfl)
 have HC := hid hC
 clear hC hq z zz t bb b bA HB HR HZ HH IL
 go_wp2_with fail
 generalize w1.alloc (.cells #[.int .i64 A, .int .i64 B, .slice aK kl cK, .slice aV vl cV] 162) = U1 at *
 generalize w1.heap.size = q at *
 refine (impl_inLimits A B _).mono ?_
 rintro e w2 ⟨rfl, b⟩
 rw [LL.out]
 have hs := HS.out
 have hs2 := HS2.out
 replace R1 := hid ((b.block w.heap.size (by omega)).trans R1.out)
 replace B1 := hid (B1.out.trans (b.mono (by omega)))
 replace HC := hid (cells4_below HC.out b)
 replace HH1 := hid (HH1.out.below b (Nat.le_refl _))
 replace HS2 := hid (Nat.lt_of_lt_of_le hs2 b.size)
 clear b LL hs hs2 Q1
 obtain ⟨c0, c1, c2, c3⟩ := HC.out
 go_wp2_with fail
 clear c0 c1 c2 c3
 refine (impl_KeyRead cK lK (RK0.out _ HH1.out) (by omega) HK.out).mono ?_
 rintro e w3 ⟨f1, u1, rfl, hf1, S1, o, b⟩
 obtain ⟨a1, c1, rfl, r, d1⟩ := Reads.own o BK.out
 have hss1 := fun w a m => run_store Tryz.prog w a (.float .f64 f1) m rfl
 have bA := Below.alloc1 w3 (.cells #[.int .i64 RK, .int .i64 RN, .float .f64 f1, .slice a1 RZ.length c1] 29)
 have hs := HS.out
 have hs2 := HS2.out
 have zz := b.size
 have o1 := o.alloc (.cells #[.int .i64 RK, .int .i64 RN, .float .f64 f1, .slice a1 RZ.length c1] 29)
 have Q2 := hid (heap_alloc_new w3 (.cells #[.int .i64 RK, .int .i64 RN, .float .f64 f1, .slice a1 RZ.length c1] 29))
 replace R1 := hid ((heap_alloc_old w3 (.cells #[.int .i64 RK, .int .i64 RN, .float .f64 f1, .slice a1 RZ.length c1] 29) (show w.heap.size < w3.heap.size by omega)).trans ((b.block w.heap.size (by omega)).trans R1.out))
 replace B1 := hid ((B1.out.trans (b.mono (by omega))).trans (bA.mono (by omega)))
 replace HC := hid (cells4_below (cells4_below HC.out b) bA)
 replace HH1 := hid ((HH1.out.below b (Nat.le_refl _)).below bA (Nat.le_refl _))
 have O1 := hid (owns_base (base' := w.heap.size + 1) o1 (by omega))
 have D1 : Hid (In a1 (w.heap.size + 1) w3.heap.size) := hid (by rcases d1 with h | ⟨g, h, h1, h2⟩; exact .inl h; exact .inr ⟨g, h, by omega, h2⟩)
 have HS3 := hid (show w.heap.size < w3.heap.size by omega)
 have HS4 := hid (show w3.heap.size < (w3.alloc (.cells #[.int .i64 RK, .int .i64 RN, .float .f64 f1, .slice a1 RZ.length c1] 29)).heap.size by rw [alloc_size]; omega)
 clear o o1 b bA r d1 hs hs2 zz
 obtain ⟨c0, c1', c2, c3⟩ := HC.out
 go_wp2_with fail
 clear c0 c1' c2 c3
 generalize w3.alloc (.cells #[.int .i64 RK, .int .i64 RN, .float .f64 f1, .slice a1 RZ.length c1] 29) = U3 at *
 generalize w3.heap.size = q2 at *
 refine (impl_ValueRead cV lV (RV0.out _ HH1.out) (by omega) HV.out).mono ?_
 rintro e w4 ⟨f2, u2, rfl, hf2, S2, o, b⟩
 obtain ⟨a2, c2, rfl, r, d2⟩ := Reads.own o BV.out
 have hss2 := fun w a m => run_store Tryz.prog w a (.float .f64 f2) m rfl
 have bA := Below.alloc1 w4 (.cells #[.int .i64 SK, .int .i64 SN, .float .f64 f2, .slice a2 SZ.length c2] 29)
 have hs := HS3.out
 have hs2 := HS4.out
 have zz := b.size
 have o2 := o.alloc (.cells #[.int .i64 SK, .int .i64 SN, .float .f64 f2, .slice a2 SZ.length c2] 29)
 have Q3 := hid (heap_alloc_new w4 (.cells #[.int .i64 SK, .int .i64 SN, .float .f64 f2, .slice a2 SZ.length c2] 29))
 replace Q2 := hid ((heap_alloc_old w4 (.cells #[.int .i64 SK, .int .i64 SN, .float .f64 f2, .slice a2 SZ.length c2] 29) (show q2 < w4.heap.size by omega)).trans ((b.block q2 (by omega)).trans Q2.out))
 replace R1 := hid ((heap_alloc_old w4 (.cells #[.int .i64 SK, .int .i64 SN, .float .f64 f2, .slice a2 SZ.length c2] 29) (show w.heap.size < w4.heap.size by omega)).trans ((b.block w.heap.size (by omega)).trans R1.out))
 replace B1 := hid ((B1.out.trans (b.mono (by omega))).trans (bA.mono (by omega)))
 replace HC := hid (cells4_below (cells4_below HC.out b) bA)
 replace O1 := hid ((owns_below b (Nat.le_refl _) O1.out).alloc (.cells #[.int .i64 SK, .int .i64 SN, .float .f64 f2, .slice a2 SZ.length c2] 29))
 have O2 := hid (owns_base (base' := w.heap.size + 1) o2 (by omega))
 have D2 : Hid (In a2 q2 w4.heap.size) := hid (by rcases d2 with h | ⟨g, h, h1, h2⟩; exact .inl h; exact .inr ⟨g, h, by omega, h2⟩)
 clear o o2 b bA r d2 hs hs2 zz HH1 HS HS2 HS3 HS4
 obtain ⟨c0, c1', c2', c3⟩ := HC.out
 go_wp2_with (first
  | (refine wpList_store_row rfl 31 (.tmp 2) (.tmp 42) rfl w.heap.size #[.int .i64 0, .int .i64 0, .int .i64 0, .int .i64 0, .float .f64 0, .slice none 0 0, .int .i64 0, .int .i64 0, .float .f64 0, .slice none 0 0] rfl rfl 31 _ R1.out ?s1 ?s2 ?s3 ?_))
 case s1 => exact size_tup
 case s2 => rfl
 case s3 => simp [Value.oneCell']
 exact bodyPost_ret (results_cell_tmp Tryz.results104 _ _ w.heap.size 31 _ (0, 0) _ rfl (setRow_heap _ _ _ _ _ _ R1.out) Tryz.underlying31 rfl size_tup) rfl ⟨rfl, below_setRow B1.out (Nat.le_refl _) _⟩
set_option maxHeartbeats 6400000 in
theorem tread_nov {b off n : Nat} (cap : Nat) (hc : n ≤ cap) {zs : List Int} {w : World} (h : Reads w (some ⟨b, off, none⟩) n zs) (hn : n ≤ 1048576) (hw : whole zs = true) (hl : limT zs = true) {RK RN : Int} {RF : Nat} {RZ : List Int} (hk : readR unfK (keyP zs) = (RK, RN, RF, RZ, true)) {SK SN : Int} {SF : Nat} {SZ : List Int} (hr : readR unfV (valP zs) = (SK, SN, SF, SZ, false)) :
 Calls Tryz.prog 104 #[.slice (some ⟨b, off, none⟩) n cap] w fun e w' => e = .returned (.tuple #[.agg #[.int .i64 0, .int .i64 0, .int .i64 0, .int .i64 0, .float .f64 0, .slice none 0 0, .int .i64 0, .int .i64 0, .float .f64 0, .slice none 0 0], .bool false]) ∧ Below w.heap.size w w' := by
 have HB := hid (Below.alloc1 w (.cells #[.int .i64 0, .int .i64 0, .int .i64 0, .int .i64 0, .float .f64 0, .slice none 0 0, .int .i64 0, .int .i64 0, .float .f64 0, .slice none 0 0] 31))
 have HR := hid (heap_alloc_new w (.cells #[.int .i64 0, .int .i64 0, .int .i64 0, .int .i64 0, .float .f64 0, .slice none 0 0, .int .i64 0, .int .i64 0, .float .f64 0, .slice none 0 0] 31))
 have HZ := hid (alloc_size w (.cells #[.int .i64 0, .int .i64 0, .int .i64 0, .int .i64 0, .float .f64 0, .slice none 0 0, .int .i64 0, .int .i64 0, .float .f64 0, .slice none 0 0] 31))
 have HH := hid (h.alloc (.cells #[.int .i64 0, .int .i64 0, .int .i64 0, .int .i64 0, .float .f64 0, .slice none 0 0, .int .i64 0, .int .i64 0, .float .f64 0, .slice none 0 0] 31))
 have hv := whole_10 hw
 have IL : Hid (∀ W : World, Reads W (some ⟨b, off, none⟩) n zs → _) := hid fun W (r : Reads W (some ⟨b, off, none⟩) n zs) => laid_true cap hc r hn hw
 have LL := hid hl
 rw [limT] at LL
 have lk : tkl zs ≤ n := by have := h.len; omega
 obtain ⟨kl, hkl⟩ : ∃ kl, tkl zs = kl := ⟨_, rfl⟩
 obtain ⟨vl, hvl⟩ : ∃ vl, n - (10 + tkl zs) = vl := ⟨_, rfl⟩
 rw [hvl, hkl] at IL
 rw [hkl] at lk
 have hvn : vl ≤ n := by omega
 generalize numOf zs 0 4 = A at *
 generalize numOf zs 4 4 = B at *
 have BK := hid (readR_bd hk (take_bd (drop_bd h.bd 9) _) (by have := h.len; simp [keyP]; omega)).1
 have BV := hid (readR_bd hr (drop_bd h.bd _) (by have := h.len; simp [valP]; omega)).1
 have HK := hid hk
 have HV := hid hr
 clear hk hr
 clear h hl hv hkl hvl
 go_enter Tryz.func104, Tryz.ntmps104
 go_wp2_with fail
 generalize w.alloc (.cells #[.int .i64 0, .int .i64 0, .int .i64 0, .int .i64 0, .float .f64 0, .slice none 0 0, .int .i64 0, .int .i64 0, .float .f64 0, .slice none 0 0] 31) = W0 at *
 refine (IL.out W0 HH.out).mono ?_
 rintro e w1 ⟨aK, cK, aV, cV, rfl, RK0, lK, RV0, lV, b⟩
 have z := HZ.out
 have zz := b.size
 have t := (b.block w.heap.size (by omega)).trans HR.out
 have bb := HB.out.trans (b.mono HB.out.size)
 have bA := Below.alloc1 w1 (.cells #[.int .i64 A, .int .i64 B, .slice aK kl cK, .slice aV vl cV] 162)
 have R1 := hid ((heap_alloc_old w1 (.cells #[.int .i64 A, .int .i64 B, .slice aK kl cK, .slice aV vl cV] 162) (show w.heap.size < w1.heap.size by omega)).trans t)
 have B1 := hid (bb.trans (bA.mono (by omega)))
 have HH1 := hid ((HH.out.below b (Nat.le_refl _)).below bA (Nat.le_refl _))
 have hq := heap_alloc_new w1 (.cells #[.int .i64 A, .int .i64 B, .slice aK kl cK, .slice aV vl cV] 162)
 have Q1 := hid hq
 have HS := hid (show w.heap.size < w1.heap.size by omega)
 have HS2 := hid (show w1.heap.size < (w1.alloc (.cells #[.int .i64 A, .int .i64 B, .slice aK kl cK, .slice aV vl cV] 162)).heap.size by rw [alloc_size]; omega)
 have hC : (w1.alloc (.cells #[.int .i64 A, .int .i64 B, .slice aK kl cK, .slice aV vl cV] 162)).cell? ⟨w1.heap.size, 0, none⟩ = some (.int .i64 A) ∧ (w1.alloc (.cells #[.int .i64 A, .int .i64 B, .slice aK kl cK, .slice aV vl cV] 162)).cell? ⟨w1.heap.size, 1, none⟩ = some (.int .i64 B) ∧ (w1.alloc (.cells #[.int .i64 A, .int .i64 B, .slice aK kl cK, .slice aV vl cV] 162)).cell? ⟨w1.heap.size, 2, none⟩ = some (.slice aK kl cK) ∧ (w1.alloc (.cells #[.int .i64 A, .int .i64 B, .slice aK kl cK, .slice aV vl cV] 162)).cell? ⟨w1.heap.size, 3, none⟩ = some (.slice aV vl cV) := by
  refine ⟨?_, ?_, ?_, ?_⟩ <;> (rw [cell_of_row _ _ _ _ _ _ hq]; rfl)
 have HC := hid hC
 clear hC hq z zz t bb b bA HB HR HZ HH IL
 go_wp2_with fail
 generalize w1.alloc (.cells #[.int .i64 A, .int .i64 B, .slice aK kl cK, .slice aV vl cV] 162) = U1 at *
 generalize w1.heap.size = q at *
 refine (impl_inLimits A B _).mono ?_
 rintro e w2 ⟨rfl, b⟩
 rw [LL.out]
 have hs := HS.out
 have hs2 := HS2.out
 replace R1 := hid ((b.block w.heap.size (by omega)).trans R1.out)
 replace B1 := hid (B1.out.trans (b.mono (by omega)))
 replace HC := hid (cells4_below HC.out b)
 replace HH1 := hid (HH1.out.below b (Nat.le_refl _))
 replace HS2 := hid (Nat.lt_of_lt_of_le hs2 b.size)
 clear b LL hs hs2 Q1
 obtain ⟨c0, c1, c2, c3⟩ := HC.out
 go_wp2_with fail
 clear c0 c1 c2 c3
 refine (impl_KeyRead cK lK (RK0.out _ HH1.out) (by omega) HK.out).mono ?_
 rintro e w3 ⟨f1, u1, rfl, hf1, S1, o, b⟩
 obtain ⟨a1, c1, rfl, r, d1⟩ := Reads.own o BK.out
 have hss1 := fun w a m => run_store Tryz.prog w a (.float .f64 f1) m rfl
 have bA := Below.alloc1 w3 (.cells #[.int .i64 RK, .int .i64 RN, .float .f64 f1, .slice a1 RZ.length c1] 29)
 have hs := HS.out
 have hs2 := HS2.out
 have zz := b.size
 have o1 := o.alloc (.cells #[.int .i64 RK, .int .i64 RN, .float .f64 f1, .slice a1 RZ.length c1] 29)
 have Q2 := hid (heap_alloc_new w3 (.cells #[.int .i64 RK, .int .i64 RN, .float .f64 f1, .slice a1 RZ.length c1] 29))
 replace R1 := hid ((heap_alloc_old w3 (.cells #[.int .i64 RK, .int .i64 RN, .float .f64 f1, .slice a1 RZ.length c1] 29) (show w.heap.size < w3.heap.size by omega)).trans ((b.block w.heap.size (by omega)).trans R1.out))
 replace B1 := hid ((B1.out.trans (b.mono (by omega))).trans (bA.mono (by omega)))
 replace HC := hid (cells4_below (cells4_below HC.out b) bA)
 replace HH1 := hid ((HH1.out.below b (Nat.le_refl _)).below bA (Nat.le_refl _))
 have O1 := hid (owns_base (base' := w.heap.size + 1) o1 (by omega))
 have D1 : Hid (In a1 (w.heap.size + 1) w3.heap.size) := hid (by rcases d1 with h | ⟨g, h, h1, h2⟩; exact .inl h; exact .inr ⟨g, h, by omega, h2⟩)
 have HS3 := hid (show w.heap.size < w3.heap.size by omega)
 have HS4 := hid (show w3.heap.size < (w3.alloc (.cells #[.int .i64 RK, .int .i64 RN, .float .f64 f1, .slice a1 RZ.length c1] 29)).heap.size by rw [alloc_size]; omega)
 clear o o1 b bA r d1 hs hs2 zz
 obtain ⟨c0, c1', c2, c3⟩ := HC.out
 go_wp2_with fail
 clear c0 c1' c2 c3
 generalize w3.alloc (.cells #[.int .i64 RK, .int .i64 RN, .float .f64 f1, .slice a1 RZ.length c1] 29) = U3 at *
 generalize w3.heap.size = q2 at *
 refine (impl_ValueRead cV lV (RV0.out _ HH1.out) (by omega) HV.out).mono ?_
 rintro e w4 ⟨f2, u2, rfl, hf2, S2, o, b⟩
 obtain ⟨a2, c2, rfl, r, d2⟩ := Reads.own o BV.out
 have hss2 := fun w a m => run_store Tryz.prog w a (.float .f64 f2) m rfl
 have bA := Below.alloc1 w4 (.cells #[.int .i64 SK, .int .i64 SN, .float .f64 f2, .slice a2 SZ.length c2] 29)
 have hs := HS3.out
 have hs2 := HS4.out
 have zz := b.size
 have o2 := o.alloc (.cells #[.int .i64 SK, .int .i64 SN, .float .f64 f2, .slice a2 SZ.length c2] 29)
 have Q3 := hid (heap_alloc_new w4 (.cells #[.int .i64 SK, .int .i64 SN, .float .f64 f2, .slice a2 SZ.length c2] 29))
 replace Q2 := hid ((heap_alloc_old w4 (.cells #[.int .i64 SK, .int .i64 SN, .float .f64 f2, .slice a2 SZ.length c2] 29) (show q2 < w4.heap.size by omega)).trans ((b.block q2 (by omega)).trans Q2.out))
 replace R1 := hid ((heap_alloc_old w4 (.cells #[.int .i64 SK, .int .i64 SN, .float .f64 f2, .slice a2 SZ.length c2] 29) (show w.heap.size < w4.heap.size by omega)).trans ((b.block w.heap.size (by omega)).trans R1.out))
 replace B1 := hid ((B1.out.trans (b.mono (by omega))).trans (bA.mono (by omega)))
 replace HC := hid (cells4_below (cells4_below HC.out b) bA)
 replace O1 := hid ((owns_below b (Nat.le_refl _) O1.out).alloc (.cells #[.int .i64 SK, .int .i64 SN, .float .f64 f2, .slice a2 SZ.length c2] 29))
 have O2 := hid (owns_base (base' := w.heap.size + 1) o2 (by omega))
 have D2 : Hid (In a2 q2 w4.heap.size) := hid (by rcases d2 with h | ⟨g, h, h1, h2⟩; exact .inl h; exact .inr ⟨g, h, by omega, h2⟩)
 clear o o2 b bA r d2 hs hs2 zz HH1 HS HS2 HS3 HS4
 obtain ⟨c0, c1', c2', c3⟩ := HC.out
 go_wp2_with (first
  | (refine wpList_store_row rfl 31 (.tmp 2) (.tmp 42) rfl w.heap.size #[.int .i64 0, .int .i64 0, .int .i64 0, .int .i64 0, .float .f64 0, .slice none 0 0, .int .i64 0, .int .i64 0, .float .f64 0, .slice none 0 0] rfl rfl 31 _ R1.out ?s1 ?s2 ?s3 ?_))
 case s1 => exact size_tup
 case s2 => rfl
 case s3 => simp [Value.oneCell']
 exact bodyPost_ret (results_cell_tmp Tryz.results104 _ _ w.heap.size 31 _ (0, 0) _ rfl (setRow_heap _ _ _ _ _ _ R1.out) Tryz.underlying31 rfl size_tup) rfl ⟨rfl, below_setRow B1.out (Nat.le_refl _) _⟩
set_option maxHeartbeats 6400000 in
theorem tread_yes {b off n : Nat} (cap : Nat) (hc : n ≤ cap) {zs : List Int} {w : World} (h : Reads w (some ⟨b, off, none⟩) n zs) (hn : n ≤ 1048576) (hw : whole zs = true) (hl : limT zs = true) {RK RN : Int} {RF : Nat} {RZ : List Int} (hk : readR unfK (keyP zs) = (RK, RN, RF, RZ, true)) {SK SN : Int} {SF : Nat} {SZ : List Int} (hr : readR unfV (valP zs) = (SK, SN, SF, SZ, true)) :
 Calls Tryz.prog 104 #[.slice (some ⟨b, off, none⟩) n cap] w fun e w' => ∃ (f1 : Nat) (v1 : Value) (f2 : Nat) (v2 : Value), e = .returned (.tuple #[.agg #[.int .i64 (numOf zs 0 4), .int .i64 (numOf zs 4 4), .int .i64 RK, .int .i64 RN, .float .f64 f1, v1, .int .i64 SK, .int .i64 SN, .float .f64 f2, v2], .bool true]) ∧ f1 < 18446744073709551616 ∧ f2 < 18446744073709551616 ∧ Hid (Same RF f1) ∧ Hid (Same SF f2) ∧ w'.ownsRow w.heap.size 5 1 v1 RZ.length (bys RZ) ∧ w'.ownsRow w.heap.size 5 1 v2 SZ.length (bys SZ) ∧ Apart v1 v2 ∧ Below w.heap.size w w' := by
 have HB := hid (Below.alloc1 w (.cells #[.int .i64 0, .int .i64 0, .int .i64 0, .int .i64 0, .float .f64 0, .slice none 0 0, .int .i64 0, .int .i64 0, .float .f64 0, .slice none 0 0] 31))
 have HR := hid (heap_alloc_new w (.cells #[.int .i64 0, .int .i64 0, .int .i64 0, .int .i64 0, .float .f64 0, .slice none 0 0, .int .i64 0, .int .i64 0, .float .f64 0, .slice none 0 0] 31))
 have HZ := hid (alloc_size w (.cells #[.int .i64 0, .int .i64 0, .int .i64 0, .int .i64 0, .float .f64 0, .slice none 0 0, .int .i64 0, .int .i64 0, .float .f64 0, .slice none 0 0] 31))
 have HH := hid (h.alloc (.cells #[.int .i64 0, .int .i64 0, .int .i64 0, .int .i64 0, .float .f64 0, .slice none 0 0, .int .i64 0, .int .i64 0, .float .f64 0, .slice none 0 0] 31))
 have hv := whole_10 hw
 have IL : Hid (∀ W : World, Reads W (some ⟨b, off, none⟩) n zs → _) := hid fun W (r : Reads W (some ⟨b, off, none⟩) n zs) => laid_true cap hc r hn hw
 have LL := hid hl
 rw [limT] at LL
 have lk : tkl zs ≤ n := by have := h.len; omega
 obtain ⟨kl, hkl⟩ : ∃ kl, tkl zs = kl := ⟨_, rfl⟩
 obtain ⟨vl, hvl⟩ : ∃ vl, n - (10 + tkl zs) = vl := ⟨_, rfl⟩
 rw [hvl, hkl] at IL
 rw [hkl] at lk
 have hvn : vl ≤ n := by omega
 generalize numOf zs 0 4 = A at *
 generalize numOf zs 4 4 = B at *
 have BK := hid (readR_bd hk (take_bd (drop_bd h.bd 9) _) (by have := h.len; simp [keyP]; omega)).1
 have BV := hid (readR_bd hr (drop_bd h.bd _) (by have := h.len; simp [valP]; omega)).1
 have HK := hid hk
 have HV := hid hr
 clear hk hr
 clear h hl hv hkl hvl
 go_enter Tryz.func104, Tryz.ntmps104
 go_wp2_with fail
 generalize w.alloc (.cells #[.int .i64 0, .int .i64 0, .int .i64 0, .int .i64 0, .float .f64 0, .slice none 0 0, .int .i64 0, .int .i64 0, .float .f64 0, .slice none 0 0] 31) = W0 at *
 refine (IL.out W0 HH.out).mono ?_
 rintro e w1 ⟨aK, cK, aV, cV, rfl, RK0, lK, RV0, lV, b⟩
 have z := HZ.out
 have zz := b.size
 have t := (b.block w.heap.size (by omega)).trans HR.out
 have bb := HB.out.trans (b.mono HB.out.size)
 have bA := Below.alloc1 w1 (.cells #[.int .i64 A, .int .i64 B, .slice aK kl cK, .slice aV vl cV] 162)
 have R1 := hid ((heap_alloc_old w1 (.cells #[.int .i64 A, .int .i64 B, .slice aK kl cK, .slice aV vl cV] 162) (show w.heap.size < w1.heap.size by omega)).trans t)
 have B1 := hid (bb.trans (bA.mono (by omega)))
 have HH1 := hid ((HH.out.below b (Nat.le_refl _)).below bA (Nat.le_refl _))
 have hq := heap_alloc_new w1 (.cells #[.int .i64 A, .int .i64 B, .slice aK kl cK, .slice aV vl cV] 162)
 have Q1 := hid hq
 have HS := hid (show w.heap.size < w1.heap.size by omega)
 have HS2 := hid (show w1.heap.size < (w1.alloc (.cells #[.int .i64 A, .int .i64 B, .slice aK kl cK, .slice aV vl cV] 162)).heap.size by rw [alloc_size]; omega)
 have hC : (w1.alloc (.cells #[.int .i64 A, .int .i64 B, .slice aK kl cK, .slice aV vl cV] 162)).cell? ⟨w1.heap.size, 0, none⟩ = some (.int .i64 A) ∧ (w1.alloc (.cells #[.int .i64 A, .int .i64 B, .slice aK kl cK, .slice aV vl cV] 162)).cell? ⟨w1.heap.size, 1, none⟩ = some (.int .i64 B) ∧ (w1.alloc (.cells #[.int .i64 A, .int .i64 B, .slice aK kl cK, .slice aV vl cV] 162)).cell? ⟨w1.heap.size, 2, none⟩ = some (.slice aK kl cK) ∧ (w1.alloc (.cells #[.int .i64 A, .int .i64 B, .slice aK kl cK, .slice aV vl cV] 162)).cell? ⟨w1.heap.size, 3, none⟩ = some (.slice aV vl cV) := by
  refine ⟨?_, ?_, ?_, ?_⟩ <;> (rw [cell_of_row _ _ _ _ _ _ hq]; rfl)
 have HC := hid hC
 clear hC hq z zz t bb b bA HB HR HZ HH IL
 go_wp2_with fail
 generalize w1.alloc (.cells #[.int .i64 A, .int .i64 B, .slice aK kl cK, .slice aV vl cV] 162) = U1 at *
 generalize w1.heap.size = q at *
 refine (impl_inLimits A B _).mono ?_
 rintro e w2 ⟨rfl, b⟩
 rw [LL.out]
 have hs := HS.out
 have hs2 := HS2.out
 replace R1 := hid ((b.block w.heap.size (by omega)).trans R1.out)
 replace B1 := hid (B1.out.trans (b.mono (by omega)))
 replace HC := hid (cells4_below HC.out b)
 replace HH1 := hid (HH1.out.below b (Nat.le_refl _))
 replace HS2 := hid (Nat.lt_of_lt_of_le hs2 b.size)
 clear b LL hs hs2 Q1
 obtain ⟨c0, c1, c2, c3⟩ := HC.out
 go_wp2_with fail
 clear c0 c1 c2 c3
 refine (impl_KeyRead cK lK (RK0.out _ HH1.out) (by omega) HK.out).mono ?_
 rintro e w3 ⟨f1, u1, rfl, hf1, S1, o, b⟩
 obtain ⟨a1, c1, rfl, r, d1⟩ := Reads.own o BK.out
 have hss1 := fun w a m => run_store Tryz.prog w a (.float .f64 f1) m rfl
 have bA := Below.alloc1 w3 (.cells #[.int .i64 RK, .int .i64 RN, .float .f64 f1, .slice a1 RZ.length c1] 29)
 have hs := HS.out
 have hs2 := HS2.out
 have zz := b.size
 have o1 := o.alloc (.cells #[.int .i64 RK, .int .i64 RN, .float .f64 f1, .slice a1 RZ.length c1] 29)
 have Q2 := hid (heap_alloc_new w3 (.cells #[.int .i64 RK, .int .i64 RN, .float .f64 f1, .slice a1 RZ.length c1] 29))
 replace R1 := hid ((heap_alloc_old w3 (.cells #[.int .i64 RK, .int .i64 RN, .float .f64 f1, .slice a1 RZ.length c1] 29) (show w.heap.size < w3.heap.size by omega)).trans ((b.block w.heap.size (by omega)).trans R1.out))
 replace B1 := hid ((B1.out.trans (b.mono (by omega))).trans (bA.mono (by omega)))
 replace HC := hid (cells4_below (cells4_below HC.out b) bA)
 replace HH1 := hid ((HH1.out.below b (Nat.le_refl _)).below bA (Nat.le_refl _))
 have O1 := hid (owns_base (base' := w.heap.size + 1) o1 (by omega))
 have D1 : Hid (In a1 (w.heap.size + 1) w3.heap.size) := hid (by rcases d1 with h | ⟨g, h, h1, h2⟩; exact .inl h; exact .inr ⟨g, h, by omega, h2⟩)
 have HS3 := hid (show w.heap.size < w3.heap.size by omega)
 have HS4 := hid (show w3.heap.size < (w3.alloc (.cells #[.int .i64 RK, .int .i64 RN, .float .f64 f1, .slice a1 RZ.length c1] 29)).heap.size by rw [alloc_size]; omega)
 clear o o1 b bA r d1 hs hs2 zz
 obtain ⟨c0, c1', c2, c3⟩ := HC.out
 go_wp2_with fail
 clear c0 c1' c2 c3
 generalize w3.alloc (.cells #[.int .i64 RK, .int .i64 RN, .float .f64 f1, .slice a1 RZ.length c1] 29) = U3 at *
 generalize w3.heap.size = q2 at *
 refine (impl_ValueRead cV lV (RV0.out _ HH1.out) (by omega) HV.out).mono ?_
 rintro e w4 ⟨f2, u2, rfl, hf2, S2, o, b⟩
 obtain ⟨a2, c2, rfl, r, d2⟩ := Reads.own o BV.out
 have hss2 := fun w a m => run_store Tryz.prog w a (.float .f64 f2) m rfl
 have bA := Below.alloc1 w4 (.cells #[.int .i64 SK, .int .i64 SN, .float .f64 f2, .slice a2 SZ.length c2] 29)
 have hs := HS3.out
 have hs2 := HS4.out
 have zz := b.size
 have o2 := o.alloc (.cells #[.int .i64 SK, .int .i64 SN, .float .f64 f2, .slice a2 SZ.length c2] 29)
 have Q3 := hid (heap_alloc_new w4 (.cells #[.int .i64 SK, .int .i64 SN, .float .f64 f2, .slice a2 SZ.length c2] 29))
 replace Q2 := hid ((heap_alloc_old w4 (.cells #[.int .i64 SK, .int .i64 SN, .float .f64 f2, .slice a2 SZ.length c2] 29) (show q2 < w4.heap.size by omega)).trans ((b.block q2 (by omega)).trans Q2.out))
 replace R1 := hid ((heap_alloc_old w4 (.cells #[.int .i64 SK, .int .i64 SN, .float .f64 f2, .slice a2 SZ.length c2] 29) (show w.heap.size < w4.heap.size by omega)).trans ((b.block w.heap.size (by omega)).trans R1.out))
 replace B1 := hid ((B1.out.trans (b.mono (by omega))).trans (bA.mono (by omega)))
 replace HC := hid (cells4_below (cells4_below HC.out b) bA)
 replace O1 := hid ((owns_below b (Nat.le_refl _) O1.out).alloc (.cells #[.int .i64 SK, .int .i64 SN, .float .f64 f2, .slice a2 SZ.length c2] 29))
 have O2 := hid (owns_base (base' := w.heap.size + 1) o2 (by omega))
 have D2 : Hid (In a2 q2 w4.heap.size) := hid (by rcases d2 with h | ⟨g, h, h1, h2⟩; exact .inl h; exact .inr ⟨g, h, by omega, h2⟩)
 clear o o2 b bA r d2 hs hs2 zz HH1 HS HS2 HS3 HS4
 obtain ⟨c0, c1', c2', c3⟩ := HC.out
 have cQ2 := row_cells Q2.out
 have cQ3 := row_cells Q3.out
 obtain ⟨k0, k1, k2, k3⟩ := cQ2
 obtain ⟨l0, l1, l2, l3⟩ := cQ3
 go_wp2_with (first
  | (refine wpList_store_row rfl 31 (.tmp 2) (.tmp 51) rfl w.heap.size #[.int .i64 A, .int .i64 B, .int .i64 RK, .int .i64 RN, .float .f64 f1, .slice a1 RZ.length c1, .int .i64 SK, .int .i64 SN, .float .f64 f2, .slice a2 SZ.length c2] rfl rfl 31 _ R1.out ?s1 ?s2 ?s3 ?_))
 case s1 => exact size_tup
 case s2 => rfl
 case s3 => simp [Value.oneCell']
 have G : ∀ (u : World) (R : Array Value), u.grownBy (u.setRow w.heap.size R) (some w.heap.size) := fun u R => ⟨rfl, rfl, rfl, by simp, fun i _ hne => setRow_other _ _ _ _ (fun e => hne (by rw [e]))⟩
 have NE : ∀ (a : Option Addr) (n c : Nat) (u : World) (xs : List Value), u.ownsRow (w.heap.size + 1) 5 1 (.slice a n c) n xs → (Value.slice a n c).ownBlock = none ∨ (Value.slice a n c).ownBlock ≠ some w.heap.size := fun a n c u xs o => .inr fun e => by have := (o.lt _ e).1; omega
 refine bodyPost_ret (results_cell_tmp Tryz.results104 _ _ w.heap.size 31 _ (0, 0) _ rfl (setRow_heap _ _ _ _ _ _ R1.out) Tryz.underlying31 rfl size_tup) rfl ⟨_, _, _, _, rfl, hf1, hf2, S1, S2, owns_base (O1.out.kept (G _ _) (NE _ _ _ _ _ O1.out)) (by omega), owns_base (O2.out.kept (G _ _) (NE _ _ _ _ _ O2.out)) (by omega), D1.out.own D2.out (.inl (Nat.le_refl _)), below_setRow B1.out (Nat.le_refl _) _⟩
end Go.Proofs.YtkfhfjghfadofaaGreat
/- TupleRead, the program's: it answers 'readT'. Conditions: lists of at most 2^20 bytes. -/

namespace Go.Proofs.YtkfhfjghfadofaaGreat
open Go.RowKit
set_option maxRecDepth 100000
theorem tzero {zs : List Int} {w w' : World} {e : Ending} (h : e = .returned (.tuple #[.agg #[.int .i64 0, .int .i64 0, .int .i64 0, .int .i64 0, .float .f64 0, .slice none 0 0, .int .i64 0, .int .i64 0, .float .f64 0, .slice none 0 0], .bool false]) ∧ Below w.heap.size w w') (hT : readT zs = t0) : ∃ (f1 : Nat) (v1 : Value) (f2 : Nat) (v2 : Value), e = .returned (.tuple #[.agg #[.int .i64 (readT zs).A, .int .i64 (readT zs).B, .int .i64 (readT zs).K, .int .i64 (readT zs).N, .float .f64 f1, v1, .int .i64 (readT zs).L, .int .i64 (readT zs).M, .float .f64 f2, v2], .bool (readT zs).ok]) ∧ f1 < 18446744073709551616 ∧ f2 < 18446744073709551616 ∧ Hid (Same (readT zs).F f1) ∧ Hid (Same (readT zs).H f2) ∧ w'.ownsRow w.heap.size 5 1 v1 (readT zs).Z.length (bys (readT zs).Z) ∧ w'.ownsRow w.heap.size 5 1 v2 (readT zs).Y.length (bys (readT zs).Y) ∧ Apart v1 v2 ∧ Below w.heap.size w w' := by
 obtain ⟨rfl, b⟩ := h
 rw [hT]
 exact ⟨0, .slice none 0 0, 0, .slice none 0 0, rfl, by omega, by omega, hid (Same.refl _), hid (Same.refl _), World.ownsRow_nil _ _ _ _, World.ownsRow_nil _ _ _ _, .inl rfl, b⟩
theorem impl_TupleRead {ad : Option Addr} {n : Nat} (cap : Nat) (hc : n ≤ cap) {zs : List Int} {w : World} (h : Reads w ad n zs) (hn : n ≤ 1048576) :
 Calls Tryz.prog 104 #[.slice ad n cap] w fun e w' => ∃ (f1 : Nat) (v1 : Value) (f2 : Nat) (v2 : Value), e = .returned (.tuple #[.agg #[.int .i64 (readT zs).A, .int .i64 (readT zs).B, .int .i64 (readT zs).K, .int .i64 (readT zs).N, .float .f64 f1, v1, .int .i64 (readT zs).L, .int .i64 (readT zs).M, .float .f64 f2, v2], .bool (readT zs).ok]) ∧ f1 < 18446744073709551616 ∧ f2 < 18446744073709551616 ∧ Hid (Same (readT zs).F f1) ∧ Hid (Same (readT zs).H f2) ∧ w'.ownsRow w.heap.size 5 1 v1 (readT zs).Z.length (bys (readT zs).Z) ∧ w'.ownsRow w.heap.size 5 1 v2 (readT zs).Y.length (bys (readT zs).Y) ∧ Apart v1 v2 ∧ Below w.heap.size w w' := by
 cases hw : whole zs with
 | false => exact (tread_no cap hc h hn hw).mono fun e w' hh => tzero hh (readT_no fun k => by rw [hw] at k; cases k.1)
 | true =>
  have h10 := whole_10 hw
  obtain ⟨b, off, rfl⟩ := h.pos (by have := h.len; omega)
  cases hl : limT zs with
  | false => exact (tread_lim cap hc h hn hw hl).mono fun e w' hh => tzero hh (readT_no fun k => by rw [hl] at k; cases k.2.1)
  | true =>
   obtain ⟨RK, RN, RF, RZ, k1, hk⟩ : ∃ (RK RN : Int) (RF : Nat) (RZ : List Int) (k1 : Bool), readR unfK (keyP zs) = (RK, RN, RF, RZ, k1) := ⟨_, _, _, _, _, rfl⟩
   obtain ⟨SK, SN, SF, SZ, k2, hr⟩ : ∃ (RK RN : Int) (RF : Nat) (RZ : List Int) (k1 : Bool), readR unfV (valP zs) = (RK, RN, RF, RZ, k1) := ⟨_, _, _, _, _, rfl⟩
   cases k1 with
   | false =>
    have hz : readT zs = t0 := readT_no fun k => by rw [hk] at k; cases k.2.2.1
    cases k2 with
    | false => exact (tread_nokv cap hc h hn hw hl hk hr).mono fun e w' hh => tzero hh hz
    | true => exact (tread_nok cap hc h hn hw hl hk hr).mono fun e w' hh => tzero hh hz
   | true =>
    cases k2 with
    | false => exact (tread_nov cap hc h hn hw hl hk hr).mono fun e w' hh => tzero hh (readT_no fun k => by rw [hr] at k; cases k.2.2.2)
    | true =>
     rw [readT_yes hw hl hk hr]
     exact tread_yes cap hc h hn hw hl hk hr
theorem readT_bd {zs : List Int} (hz : ∀ i, 0 ≤ zs.getD i 0 ∧ zs.getD i 0 ≤ 255) (hl : zs.length ≤ 1048576) : (∀ i, 0 ≤ (readT zs).Z.getD i 0 ∧ (readT zs).Z.getD i 0 ≤ 255) ∧ (readT zs).Z.length ≤ 1048576 ∧ (∀ i, 0 ≤ (readT zs).Y.getD i 0 ∧ (readT zs).Y.getD i 0 ≤ 255) ∧ (readT zs).Y.length ≤ 1048576 := by
 obtain ⟨RK, RN, RF, RZ, b1, hk⟩ : ∃ (RK RN : Int) (RF : Nat) (RZ : List Int) (k1 : Bool), readR unfK (keyP zs) = (RK, RN, RF, RZ, k1) := ⟨_, _, _, _, _, rfl⟩
 obtain ⟨SK, SN, SF, SZ, b2, hr⟩ : ∃ (RK RN : Int) (RF : Nat) (RZ : List Int) (k1 : Bool), readR unfV (valP zs) = (RK, RN, RF, RZ, k1) := ⟨_, _, _, _, _, rfl⟩
 have d1 := readR_bd hk (take_bd (drop_bd hz 9) _) (by simp [keyP]; omega)
 have d2 := readR_bd hr (drop_bd hz _) (by simp [valP]; omega)
 unfold readT
 rw [hk, hr]
 split
 · exact ⟨d1.1, d1.2, d2.1, d2.2⟩
 · exact ⟨fun i => by simp [t0], by simp [t0], fun i => by simp [t0], by simp [t0]⟩
end Go.Proofs.YtkfhfjghfadofaaGreat
/- The specification's KeyRead, by kinds. -/



namespace Go.Proofs.YtkfhfjghfadofaaGreat
open Go.RowKit
set_option maxRecDepth 100000 in
set_option maxHeartbeats 3200000 in
theorem spec_KeyRead_1n1 {b off : Nat} {ts : List Int} {w : World} (h : Reads w (some ⟨b, off, none⟩) 1 (1 :: ts)) (E : keyB 1 ((low ts : Int) - 9223372036854775808) 0 0 [] ≠ 1 :: ts) :
 Calls Tryz.prog 99 #[.slice (some ⟨b, off, none⟩) 1 1] w fun e w' => e = .returned (.tuple #[.agg #[.int .i64 0, .int .i64 0, .float .f64 0, .slice none 0 0], .bool false]) ∧ Below w.heap.size w w' := by
 have hl : ts.length = 0 := by have := h.len; rw [List.length_cons] at this; omega
 have hbd := h.bd
 have hbt : ∀ i, 0 ≤ ts.getD i 0 ∧ ts.getD i 0 ≤ 255 := fun i => hbd (i + 1)
 have c0 : w.cell? ⟨b, off, none⟩ = some (.int .u8 1) := by
  rcases h.cells with h0 | ⟨b', off', e, hcc⟩
  · omega
  · cases e; exact hcc 0 (by omega)
 have rd : Reads w (some ⟨b, off, none⟩) 0 ts := by
  have := h.rest (Nat.le_refl _)
  rwa [show tl b off 1 = (some ⟨b, off, none⟩) by rfl] at this
 have d0 := cell_oldx (.cells #[.int .i64 1, .int .i64 0, .float .f64 0, .slice none 0 0] 29) (cell_oldx (w := w) (.cells #[.int .i64 0, .int .i64 0, .float .f64 0, .slice none 0 0] 29) c0)
 have d00 := cell_oldx (.cells #[.int .i64 0, .int .i64 0, .float .f64 0, .slice none 0 0] 29) (cell_oldx (w := w) (.cells #[.int .i64 0, .int .i64 0, .float .f64 0, .slice none 0 0] 29) c0)
 have hst0 := fun w a m => run_store Tryz.prog w a (.float .f64 0) m rfl
 have BW0 := hid (two w (.cells #[.int .i64 0, .int .i64 0, .float .f64 0, .slice none 0 0] 29) (.cells #[.int .i64 1, .int .i64 0, .float .f64 0, .slice none 0 0] 29))
 have RW0 := hid (two_rows w (.cells #[.int .i64 0, .int .i64 0, .float .f64 0, .slice none 0 0] 29) (.cells #[.int .i64 1, .int .i64 0, .float .f64 0, .slice none 0 0] 29))
 have HE := hid E
 have H := hid h
 have HRD := hid (rd.below BW0.out (Nat.le_refl _))
 have hx : low ts < 18446744073709551616 := low_lt ts 0 (by omega)
 have hX := xor_low (low ts) hx
 have BW1 := hid (two w (.cells #[.int .i64 0, .int .i64 0, .float .f64 0, .slice none 0 0] 29) (.cells #[.int .i64 1, .int .i64 ((low ts : Int) - 9223372036854775808), .float .f64 0, .slice none 0 0] 29))
 have RW1 := hid (two_rows w (.cells #[.int .i64 0, .int .i64 0, .float .f64 0, .slice none 0 0] 29) (.cells #[.int .i64 1, .int .i64 ((low ts : Int) - 9223372036854775808), .float .f64 0, .slice none 0 0] 29))
 clear c0 rd h E
 go_enter Tryz.func99, Tryz.ntmps99
 go_wp2_with fail
 refine (spec_l3low 0 HRD.out (by omega)).mono ?_
 rintro e w1 ⟨rfl, hw1⟩
 subst w1
 go_wp2_with fail
 have RR := hid RW1.out.1
 have RA := hid RW1.out.2.1
 have SZ := hid (show w.heap.size + 1 < ((w.alloc (.cells #[.int .i64 0, .int .i64 0, .float .f64 0, .slice none 0 0] 29)).alloc (.cells #[.int .i64 1, .int .i64 ((low ts : Int) - 9223372036854775808), .float .f64 0, .slice none 0 0] 29)).heap.size by have := RW1.out.2.2; omega)
 have BB := BW1
 have HB5 := hid (H.out.below BW1.out (Nat.le_refl _))
 generalize ((w.alloc (.cells #[.int .i64 0, .int .i64 0, .float .f64 0, .slice none 0 0] 29)).alloc (.cells #[.int .i64 1, .int .i64 ((low ts : Int) - 9223372036854775808), .float .f64 0, .slice none 0 0] 29)) = W5 at *
 have HS : Hid (∀ W, Below W5.heap.size W5 W → (convert 22 9 (.slice (some ⟨b, off, none⟩) 1 1)).run Tryz.prog W = .ok (.string (str (1 :: ts))) W) := hid (fun W bw => (HB5.out.below bw (Nat.le_refl _)).str 1 22 Tryz.underlying22 Tryz.underlying5 Tryz.underlying9)
 have HK : Hid (∀ W, Below W5.heap.size W5 W → Calls Tryz.prog 78 #[.agg #[.int .i64 1, .int .i64 ((low ts : Int) - 9223372036854775808), .float .f64 0, .slice none 0 0]] W fun e w' => ∃ v, e = .returned v ∧ w'.ownsRow W.heap.size 5 1 v (keyB 1 ((low ts : Int) - 9223372036854775808) 0 0 []).length (bys (keyB 1 ((low ts : Int) - 9223372036854775808) 0 0 [])) ∧ Below W.heap.size W w') := hid (fun W bw => spec_KeyBytes 1 ((low ts : Int) - 9223372036854775808) 0 0 (fun _ => rfl) ⟨rfl, .inl rfl, fun i => by simp⟩ (by omega) (by omega) (by omega) (by omega))
 have bdB := (keyB_bd (K := 1) (N := ((low ts : Int) - 9223372036854775808)) (f := 0) (n := 0) (zs := []) rfl (fun i => by simp) (by simp)).1
 have HQ := hid (str_eq (a := keyB 1 ((low ts : Int) - 9223372036854775808) 0 0 []) (b := 1 :: ts) bdB hbd)
 rw [decide_eq_false HE.out] at HQ
 generalize keyB 1 ((low ts : Int) - 9223372036854775808) 0 0 [] = BL at *
 have SB := hid (fun (w : World) (ad : Option Addr) (cap : Nat) (r : Reads w ad BL.length BL) => r.str cap 22 Tryz.underlying22 Tryz.underlying5 Tryz.underlying9)
 obtain ⟨c0, c1, c2, c3⟩ := row_cells RA.out
 have q := HQ.out
 clear HQ
 generalize str (1 :: ts) = s2 at *
 generalize str BL = s1 at *
 have sb := HS.out W5.drew ((Still.drew W5).below _)
 go_region_with (go_at_call 78; refine (HK.out _ ((Still.drew W5).below _)).mono ?_; rintro e w6 ⟨v, rfl, o, b6⟩; obtain ⟨ad6, cap6, rfl, r6, _⟩ := Reads.own o bdB; have B6 := hid (((Still.drew W5).below W5.heap.size).trans (b6.mono (Nat.le_refl _))); have s6 := SB.out _ _ cap6 r6; have sb6 := HS.out w6 B6.out; clear o b6 r6)
 all_goals
  have R6 := hid ((B6.out.block w.heap.size (Nat.lt_of_succ_lt SZ.out)).trans RR.out)
  have A6 := hid ((B6.out.block (w.heap.size + 1) SZ.out).trans RA.out)
  have D6 := hid (BB.out.trans (B6.out.mono (Nat.le_of_lt (Nat.lt_of_succ_lt SZ.out))))
  clear RR RA BB HS HK c0 c1 c2 c3 s6 sb sb6
  go_wp2_with (first
   | (refine wpList_store_row rfl 29 (.tmp 2) (.tmp 52) rfl w.heap.size #[.int .i64 0, .int .i64 0, .float .f64 0, .slice none 0 0] rfl rfl 29 _ R6.out ?s1 ?s2 ?s3 ?_))
  case s1 => exact size29
  case s2 => rfl
  case s3 => simp [Value.oneCell']
  exact bodyPost_ret (results_cell_tmp Tryz.results99 _ _ w.heap.size 29 #[.int .i64 0, .int .i64 0, .float .f64 0, .slice none 0 0] (0, 0) _ rfl (setRow_heap _ _ _ _ _ _ R6.out) Tryz.underlying29 rfl size29) rfl ⟨rfl, below_setRow D6.out (Nat.le_refl _) _⟩
set_option maxRecDepth 100000 in
set_option maxHeartbeats 3200000 in
theorem spec_KeyRead_2n1 {b off : Nat} {ts : List Int} {w : World} (P : Nat → Prop) (D : ∀ W : World, Calls Tryz.prog 141 #[.int .u64 (low ts : Int)] W fun e w' => ∃ (y : Nat) (okk : Bool), e = .returned (.tuple #[.float .f64 y, .bool okk]) ∧ y < 18446744073709551616 ∧ Hid (P y) ∧ Still W w') (h : Reads w (some ⟨b, off, none⟩) 1 (2 :: ts)) (E : ∀ y : Nat, y < 18446744073709551616 → P y → keyB 2 0 y 0 [] ≠ 2 :: ts) :
 Calls Tryz.prog 99 #[.slice (some ⟨b, off, none⟩) 1 1] w fun e w' => e = .returned (.tuple #[.agg #[.int .i64 0, .int .i64 0, .float .f64 0, .slice none 0 0], .bool false]) ∧ Below w.heap.size w w' := by
 have hl : ts.length = 0 := by have := h.len; rw [List.length_cons] at this; omega
 have hbd := h.bd
 have hbt : ∀ i, 0 ≤ ts.getD i 0 ∧ ts.getD i 0 ≤ 255 := fun i => hbd (i + 1)
 have c0 : w.cell? ⟨b, off, none⟩ = some (.int .u8 2) := by
  rcases h.cells with h0 | ⟨b', off', e, hcc⟩
  · omega
  · cases e; exact hcc 0 (by omega)
 have rd : Reads w (some ⟨b, off, none⟩) 0 ts := by
  have := h.rest (Nat.le_refl _)
  rwa [show tl b off 1 = (some ⟨b, off, none⟩) by rfl] at this
 have d0 := cell_oldx (.cells #[.int .i64 2, .int .i64 0, .float .f64 0, .slice none 0 0] 29) (cell_oldx (w := w) (.cells #[.int .i64 0, .int .i64 0, .float .f64 0, .slice none 0 0] 29) c0)
 have d00 := cell_oldx (.cells #[.int .i64 0, .int .i64 0, .float .f64 0, .slice none 0 0] 29) (cell_oldx (w := w) (.cells #[.int .i64 0, .int .i64 0, .float .f64 0, .slice none 0 0] 29) c0)
 have hst0 := fun w a m => run_store Tryz.prog w a (.float .f64 0) m rfl
 have BW0 := hid (two w (.cells #[.int .i64 0, .int .i64 0, .float .f64 0, .slice none 0 0] 29) (.cells #[.int .i64 2, .int .i64 0, .float .f64 0, .slice none 0 0] 29))
 have RW0 := hid (two_rows w (.cells #[.int .i64 0, .int .i64 0, .float .f64 0, .slice none 0 0] 29) (.cells #[.int .i64 2, .int .i64 0, .float .f64 0, .slice none 0 0] 29))
 have HE := hid E
 have H := hid h
 have HRD := hid (rd.below BW0.out (Nat.le_refl _))
 have hx : low ts < 18446744073709551616 := low_lt ts 0 (by omega)
 have HD := hid D
 clear c0 rd h E D
 go_enter Tryz.func99, Tryz.ntmps99
 go_wp2_with fail
 refine (spec_l3low 0 HRD.out (by omega)).mono ?_
 rintro e w1 ⟨rfl, hw1⟩
 subst w1
 go_wp2_with fail
 refine (HD.out _).mono ?_
 rintro e w2 ⟨y, okk, rfl, hy, HP, s2⟩
 have hsty := fun w a m => run_store Tryz.prog w a (.float .f64 y) m rfl
 replace HE := hid (HE.out y hy HP.out)
 have SA : w2.heap[w.heap.size + 1]? = some (.cells #[.int .i64 2, .int .i64 0, .float .f64 0, .slice none 0 0] 29) := by rw [s2.heap]; exact RW0.out.2.1
 have SR : w2.heap[w.heap.size]? = some (.cells #[.int .i64 0, .int .i64 0, .float .f64 0, .slice none 0 0] 29) := by rw [s2.heap]; exact RW0.out.1
 have e2 : w2.cell? ⟨w.heap.size + 1, 2, none⟩ = some (.float .f64 0) := by rw [cell_of_row _ _ _ _ _ _ SA]; rfl
 have fz : w2.frozen? ⟨w.heap.size + 1, 2, none⟩ = false := frozen_of_row _ _ _ _ _ SA
 have RA := hid (heap_setCell_same w2 (w.heap.size + 1) 2 _ 29 (.float .f64 y) SA)
 have RR := hid ((heap_setCell_other w2 ⟨w.heap.size + 1, 2, none⟩ w.heap.size (.float .f64 y) (by simp)).trans SR)
 have bw2 : Below w.heap.size w w2 := BW0.out.trans (s2.below _)
 have BB := hid (bw2.setCell (p := ⟨w.heap.size + 1, 2, none⟩) (by simp) (.float .f64 y))
 have HB5 := hid (H.out.below BB.out (Nat.le_refl _))
 have SZ := hid (show w.heap.size + 1 < (w2.setCell ⟨w.heap.size + 1, 2, none⟩ (.float .f64 y)).heap.size by have h3 := RW0.out.2.2; have h4 := s2.size; rw [setCell_size]; omega)
 clear SA SR bw2 s2
 go_wp2_with fail
 generalize w2.setCell ⟨w.heap.size + 1, 2, none⟩ (.float .f64 y) = W5 at *
 clear e2 fz
 have HS : Hid (∀ W, Below W5.heap.size W5 W → (convert 22 9 (.slice (some ⟨b, off, none⟩) 1 1)).run Tryz.prog W = .ok (.string (str (2 :: ts))) W) := hid (fun W bw => (HB5.out.below bw (Nat.le_refl _)).str 1 22 Tryz.underlying22 Tryz.underlying5 Tryz.underlying9)
 have HK : Hid (∀ W, Below W5.heap.size W5 W → Calls Tryz.prog 78 #[.agg #[.int .i64 2, .int .i64 0, .float .f64 y, .slice none 0 0]] W fun e w' => ∃ v, e = .returned v ∧ w'.ownsRow W.heap.size 5 1 v (keyB 2 0 y 0 []).length (bys (keyB 2 0 y 0 [])) ∧ Below W.heap.size W w') := hid (fun W bw => spec_KeyBytes 2 0 y 0 (fun _ => rfl) ⟨rfl, .inl rfl, fun i => by simp⟩ (by omega) (by omega) (by omega) hy)
 have bdB := (keyB_bd (K := 2) (N := 0) (f := y) (n := 0) (zs := []) rfl (fun i => by simp) (by simp)).1
 have HQ := hid (str_eq (a := keyB 2 0 y 0 []) (b := 2 :: ts) bdB hbd)
 rw [decide_eq_false HE.out] at HQ
 generalize keyB 2 0 y 0 [] = BL at *
 have SB := hid (fun (w : World) (ad : Option Addr) (cap : Nat) (r : Reads w ad BL.length BL) => r.str cap 22 Tryz.underlying22 Tryz.underlying5 Tryz.underlying9)
 obtain ⟨c0, c1, c2, c3⟩ := row_cells RA.out
 have q := HQ.out
 clear HQ
 generalize str (2 :: ts) = s2 at *
 generalize str BL = s1 at *
 have sb := HS.out W5.drew ((Still.drew W5).below _)
 go_region_with (go_at_call 78; refine (HK.out _ ((Still.drew W5).below _)).mono ?_; rintro e w6 ⟨v, rfl, o, b6⟩; obtain ⟨ad6, cap6, rfl, r6, _⟩ := Reads.own o bdB; have B6 := hid (((Still.drew W5).below W5.heap.size).trans (b6.mono (Nat.le_refl _))); have s6 := SB.out _ _ cap6 r6; have sb6 := HS.out w6 B6.out; clear o b6 r6)
 all_goals
  have R6 := hid ((B6.out.block w.heap.size (Nat.lt_of_succ_lt SZ.out)).trans RR.out)
  have A6 := hid ((B6.out.block (w.heap.size + 1) SZ.out).trans RA.out)
  have D6 := hid (BB.out.trans (B6.out.mono (Nat.le_of_lt (Nat.lt_of_succ_lt SZ.out))))
  clear RR RA BB HS HK c0 c1 c2 c3 s6 sb sb6
  go_wp2_with (first
   | (refine wpList_store_row rfl 29 (.tmp 2) (.tmp 52) rfl w.heap.size #[.int .i64 0, .int .i64 0, .float .f64 0, .slice none 0 0] rfl rfl 29 _ R6.out ?s1 ?s2 ?s3 ?_))
  case s1 => exact size29
  case s2 => rfl
  case s3 => simp [Value.oneCell']
  exact bodyPost_ret (results_cell_tmp Tryz.results99 _ _ w.heap.size 29 #[.int .i64 0, .int .i64 0, .float .f64 0, .slice none 0 0] (0, 0) _ rfl (setRow_heap _ _ _ _ _ _ R6.out) Tryz.underlying29 rfl size29) rfl ⟨rfl, below_setRow D6.out (Nat.le_refl _) _⟩
set_option maxRecDepth 100000 in
set_option maxHeartbeats 3200000 in
theorem spec_KeyRead_3y1 {b off : Nat} {ts : List Int} {w : World} (h : Reads w (some ⟨b, off, none⟩) 1 (3 :: ts)) (E : keyB 3 0 0 0 ts = 3 :: ts) :
 Calls Tryz.prog 99 #[.slice (some ⟨b, off, none⟩) 1 1] w fun e w' => ∃ v, e = .returned (.tuple #[.agg #[.int .i64 3, .int .i64 0, .float .f64 0, v], .bool true]) ∧ w'.ownsRow w.heap.size 5 1 v 0 (bys ts) ∧ Below w.heap.size w w' := by
 have hl : ts.length = 0 := by have := h.len; rw [List.length_cons] at this; omega
 have hbd := h.bd
 have hbt : ∀ i, 0 ≤ ts.getD i 0 ∧ ts.getD i 0 ≤ 255 := fun i => hbd (i + 1)
 have c0 : w.cell? ⟨b, off, none⟩ = some (.int .u8 3) := by
  rcases h.cells with h0 | ⟨b', off', e, hcc⟩
  · omega
  · cases e; exact hcc 0 (by omega)
 have rd : Reads w (some ⟨b, off, none⟩) 0 ts := by
  have := h.rest (Nat.le_refl _)
  rwa [show tl b off 1 = (some ⟨b, off, none⟩) by rfl] at this
 have d0 := cell_oldx (.cells #[.int .i64 3, .int .i64 0, .float .f64 0, .slice none 0 0] 29) (cell_oldx (w := w) (.cells #[.int .i64 0, .int .i64 0, .float .f64 0, .slice none 0 0] 29) c0)
 have d00 := cell_oldx (.cells #[.int .i64 0, .int .i64 0, .float .f64 0, .slice none 0 0] 29) (cell_oldx (w := w) (.cells #[.int .i64 0, .int .i64 0, .float .f64 0, .slice none 0 0] 29) c0)
 have hst0 := fun w a m => run_store Tryz.prog w a (.float .f64 0) m rfl
 have BW0 := hid (two w (.cells #[.int .i64 0, .int .i64 0, .float .f64 0, .slice none 0 0] 29) (.cells #[.int .i64 3, .int .i64 0, .float .f64 0, .slice none 0 0] 29))
 have RW0 := hid (two_rows w (.cells #[.int .i64 0, .int .i64 0, .float .f64 0, .slice none 0 0] 29) (.cells #[.int .i64 3, .int .i64 0, .float .f64 0, .slice none 0 0] 29))
 have HE := hid E
 have H := hid h
 have HRD := hid (rd.below BW0.out (Nat.le_refl _))
 clear c0 rd h E
 go_enter Tryz.func99, Tryz.ntmps99
 obtain ⟨i0, hi, hz0, hz1, hz2⟩ := info_parts Tryz.info5
 have O5 := hid (World.ownsRow_lit (base := w.heap.size + 2) (e := 5) (size := 1) ((w.alloc (.cells #[.int .i64 0, .int .i64 0, .float .f64 0, .slice none 0 0] 29)).alloc (.cells #[.int .i64 3, .int .i64 0, .float .f64 0, .slice none 0 0] 29)) #[] 0 (by have := RW0.out.2.2; omega) (Nat.zero_le _) rfl)
 have HZ := hid (alloc_size ((w.alloc (.cells #[.int .i64 0, .int .i64 0, .float .f64 0, .slice none 0 0] 29)).alloc (.cells #[.int .i64 3, .int .i64 0, .float .f64 0, .slice none 0 0] 29)) (.cells #[] 5))
 have HR5 := hid (HRD.out.alloc (.cells #[] 5))
 have HB0 := hid (BW0.out.alloc BW0.out.size (.cells #[] 5))
 rw [RW0.out.2.2] at O5 HZ
 go_wp2_with (at_builtin; refine wpList_append_own _ rfl _ _ 22 rfl (w.heap.size + 2) 5 i0 (.int .u8 0) 1 1 Tryz.underlying22 hi hz0 hz1 hz2 rfl (by decide) _ _ _ rfl O5.out ⟨b, off, none⟩ 0 0 (bys ts) rfl ?k2 HR5.out.news (bys_one _) ?k4 ?k5 ?k6 ?_)
 case k2 => rw [List.eq_nil_of_length_eq_zero hl]; rfl
 intro v7 w7 o7 g7 _
 have o8 : w7.ownsRow (w.heap.size + 2) 5 1 v7 0 (bys ts) := by simpa [bys] using o7
 obtain ⟨ad7, cap7, rfl, r7, d7⟩ := Reads.own o8 hbt
 have zW := HZ.out
 have rw0 := RW0.out
 have SA : w7.heap[w.heap.size + 1]? = _ := (g7.block _ (by omega) (fun e => by have := (O5.out.lt _ e.symm).1; omega)).trans ((heap_alloc_old _ _ (by omega)).trans rw0.2.1)
 have SR : w7.heap[w.heap.size]? = _ := (g7.block _ (by omega) (fun e => by have := (O5.out.lt _ e.symm).1; omega)).trans ((heap_alloc_old _ _ (by omega)).trans rw0.1)
 have e2 : w7.cell? ⟨w.heap.size + 1, 3, none⟩ = some (.slice none 0 0) := by rw [cell_of_row _ _ _ _ _ _ SA]; rfl
 have fz : w7.frozen? ⟨w.heap.size + 1, 3, none⟩ = false := frozen_of_row _ _ _ _ _ SA
 have RA := hid (heap_setCell_same w7 (w.heap.size + 1) 3 _ 29 (.slice ad7 0 cap7) SA)
 have RR := hid ((heap_setCell_other w7 ⟨w.heap.size + 1, 3, none⟩ w.heap.size (.slice ad7 0 cap7) (by simp)).trans SR)
 have bw7 : Below w.heap.size w w7 := HB0.out.grown g7 (by have := HB0.out.size; omega) (fun k hk => by have := (O5.out.lt k hk).1; omega)
 have BB := hid (bw7.setCell (p := ⟨w.heap.size + 1, 3, none⟩) (by simp) (.slice ad7 0 cap7))
 have HB5 := hid (H.out.below BB.out (Nat.le_refl _))
 have O7 := hid (owns_at (w' := w7.setCell ⟨w.heap.size + 1, 3, none⟩ (.slice ad7 0 cap7)) o8 (fun k hk => heap_setCell_other _ _ _ _ (by simp; omega)))
 have SZ := hid (show w.heap.size + 1 < (w7.setCell ⟨w.heap.size + 1, 3, none⟩ (.slice ad7 0 cap7)).heap.size by have h4 := g7.size; rw [setCell_size]; omega)
 clear SA SR bw7 g7 o7 o8 r7 d7 zW rw0 O5 HZ HR5 HB0
 go_wp2_with fail
 generalize w7.setCell ⟨w.heap.size + 1, 3, none⟩ (.slice ad7 0 cap7) = W5 at *
 clear e2 fz
 have HS : Hid (∀ W, Below W5.heap.size W5 W → (convert 22 9 (.slice (some ⟨b, off, none⟩) 1 1)).run Tryz.prog W = .ok (.string (str (3 :: ts))) W) := hid (fun W bw => (HB5.out.below bw (Nat.le_refl _)).str 1 22 Tryz.underlying22 Tryz.underlying5 Tryz.underlying9)
 have HK : Hid (∀ W, Below W5.heap.size W5 W → Calls Tryz.prog 78 #[.agg #[.int .i64 3, .int .i64 0, .float .f64 0, .slice ad7 0 cap7]] W fun e w' => ∃ v, e = .returned v ∧ w'.ownsRow W.heap.size 5 1 v (keyB 3 0 0 0 ts).length (bys (keyB 3 0 0 0 ts)) ∧ Below W.heap.size W w') := hid (fun W bw => spec_KeyBytes 3 0 0 cap7 (own_nil O7.out) ((by obtain ⟨_, _, e9, r9, _⟩ := Reads.own O7.out hbt; obtain ⟨rfl, _, rfl⟩ := Value.slice.inj e9; exact r9.below bw (Nat.le_refl _))) (by omega) (by omega) (by omega) (by omega))
 have bdB := (keyB_bd (K := 3) (N := 0) (f := 0) (n := 0) (zs := ts) rfl hbt (by rw [hl]; omega)).1
 have HQ := hid (str_eq (a := keyB 3 0 0 0 ts) (b := 3 :: ts) bdB hbd)
 rw [decide_eq_true HE.out] at HQ
 generalize keyB 3 0 0 0 ts = BL at *
 have SB := hid (fun (w : World) (ad : Option Addr) (cap : Nat) (r : Reads w ad BL.length BL) => r.str cap 22 Tryz.underlying22 Tryz.underlying5 Tryz.underlying9)
 obtain ⟨c0, c1, c2, c3⟩ := row_cells RA.out
 have q := HQ.out
 clear HQ
 generalize str (3 :: ts) = s2 at *
 generalize str BL = s1 at *
 have sb := HS.out W5.drew ((Still.drew W5).below _)
 go_region_with (go_at_call 78; refine (HK.out _ ((Still.drew W5).below _)).mono ?_; rintro e w6 ⟨v, rfl, o, b6⟩; obtain ⟨ad6, cap6, rfl, r6, _⟩ := Reads.own o bdB; have B6 := hid (((Still.drew W5).below W5.heap.size).trans (b6.mono (Nat.le_refl _))); have s6 := SB.out _ _ cap6 r6; have sb6 := HS.out w6 B6.out; clear o b6 r6)
 all_goals
  have R6 := hid ((B6.out.block w.heap.size (Nat.lt_of_succ_lt SZ.out)).trans RR.out)
  have A6 := hid ((B6.out.block (w.heap.size + 1) SZ.out).trans RA.out)
  have D6 := hid (BB.out.trans (B6.out.mono (Nat.le_of_lt (Nat.lt_of_succ_lt SZ.out))))
  clear RR RA BB HS HK c0 c1 c2 c3 s6 sb sb6
  go_wp2_with (first
   | (refine wpList_load_row rfl 29 (.tmp 4) rfl (w.heap.size + 1) rfl 29 _ (0, 0) _ A6.out Tryz.underlying29 rfl size29 ?_)
   | (refine wpList_store_row rfl 29 (.tmp 2) (.tmp 53) rfl w.heap.size #[.int .i64 3, .int .i64 0, .float .f64 0, .slice ad7 0 cap7] rfl rfl 29 _ R6.out ?s1 ?s2 ?s3 ?_))
  case s1 => exact size29
  case s2 => rfl
  case s3 => simp [Value.oneCell']
  exact bodyPost_ret (results_cell_tmp Tryz.results99 _ _ w.heap.size 29 #[.int .i64 3, .int .i64 0, .float .f64 0, .slice ad7 0 cap7] (0, 0) _ rfl (setRow_heap _ _ _ _ _ _ R6.out) Tryz.underlying29 rfl size29) rfl ⟨_, rfl, owns_base (owns_at (owns_below B6.out (Nat.le_refl _) O7.out) fun k hk => by rw [setRow_other _ _ _ _ (by omega)]) (by omega), below_setRow D6.out (Nat.le_refl _) _⟩
set_option maxRecDepth 100000 in
set_option maxHeartbeats 3200000 in
theorem spec_KeyRead_on1 {b off : Nat} {ts : List Int} {w : World} (k : Int) (hk : 0 ≤ k ∧ k ≤ 255) (k1 : k ≠ 1) (k2 : k ≠ 2) (k3 : k ≠ 3) (h : Reads w (some ⟨b, off, none⟩) 1 (k :: ts)) (E : keyB k 0 0 0 [] ≠ k :: ts) :
 Calls Tryz.prog 99 #[.slice (some ⟨b, off, none⟩) 1 1] w fun e w' => e = .returned (.tuple #[.agg #[.int .i64 0, .int .i64 0, .float .f64 0, .slice none 0 0], .bool false]) ∧ Below w.heap.size w w' := by
 have hl : ts.length = 0 := by have := h.len; rw [List.length_cons] at this; omega
 have hbd := h.bd
 have hbt : ∀ i, 0 ≤ ts.getD i 0 ∧ ts.getD i 0 ≤ 255 := fun i => hbd (i + 1)
 have c0 : w.cell? ⟨b, off, none⟩ = some (.int .u8 k) := by
  rcases h.cells with h0 | ⟨b', off', e, hcc⟩
  · omega
  · cases e; exact hcc 0 (by omega)
 have rd : Reads w (some ⟨b, off, none⟩) 0 ts := by
  have := h.rest (Nat.le_refl _)
  rwa [show tl b off 1 = (some ⟨b, off, none⟩) by rfl] at this
 have d0 := cell_oldx (.cells #[.int .i64 k, .int .i64 0, .float .f64 0, .slice none 0 0] 29) (cell_oldx (w := w) (.cells #[.int .i64 0, .int .i64 0, .float .f64 0, .slice none 0 0] 29) c0)
 have d00 := cell_oldx (.cells #[.int .i64 0, .int .i64 0, .float .f64 0, .slice none 0 0] 29) (cell_oldx (w := w) (.cells #[.int .i64 0, .int .i64 0, .float .f64 0, .slice none 0 0] 29) c0)
 have hst0 := fun w a m => run_store Tryz.prog w a (.float .f64 0) m rfl
 have q1 : (k == 1) = false := by simp [k1]
 have q2 : (k == 2) = false := by simp [k2]
 have q3 : (k == 3) = false := by simp [k3]
 have hw : IntKind.i64.wrap k = k := by rw [IntKind.wrap_i64]; omega
 have BW0 := hid (two w (.cells #[.int .i64 0, .int .i64 0, .float .f64 0, .slice none 0 0] 29) (.cells #[.int .i64 k, .int .i64 0, .float .f64 0, .slice none 0 0] 29))
 have RW0 := hid (two_rows w (.cells #[.int .i64 0, .int .i64 0, .float .f64 0, .slice none 0 0] 29) (.cells #[.int .i64 k, .int .i64 0, .float .f64 0, .slice none 0 0] 29))
 have HE := hid E
 have H := hid h
 have HRD := hid (rd.below BW0.out (Nat.le_refl _))
 clear c0 rd h E k1 k2 k3 hk
 go_enter Tryz.func99, Tryz.ntmps99
 go_wp2_with fail
 have RR := hid RW0.out.1
 have RA := hid RW0.out.2.1
 have SZ := hid (show w.heap.size + 1 < ((w.alloc (.cells #[.int .i64 0, .int .i64 0, .float .f64 0, .slice none 0 0] 29)).alloc (.cells #[.int .i64 k, .int .i64 0, .float .f64 0, .slice none 0 0] 29)).heap.size by have := RW0.out.2.2; omega)
 have BB := BW0
 have HB5 := hid (H.out.below BW0.out (Nat.le_refl _))
 generalize ((w.alloc (.cells #[.int .i64 0, .int .i64 0, .float .f64 0, .slice none 0 0] 29)).alloc (.cells #[.int .i64 k, .int .i64 0, .float .f64 0, .slice none 0 0] 29)) = W5 at *
 have HS : Hid (∀ W, Below W5.heap.size W5 W → (convert 22 9 (.slice (some ⟨b, off, none⟩) 1 1)).run Tryz.prog W = .ok (.string (str (k :: ts))) W) := hid (fun W bw => (HB5.out.below bw (Nat.le_refl _)).str 1 22 Tryz.underlying22 Tryz.underlying5 Tryz.underlying9)
 have HK : Hid (∀ W, Below W5.heap.size W5 W → Calls Tryz.prog 78 #[.agg #[.int .i64 k, .int .i64 0, .float .f64 0, .slice none 0 0]] W fun e w' => ∃ v, e = .returned v ∧ w'.ownsRow W.heap.size 5 1 v (keyB k 0 0 0 []).length (bys (keyB k 0 0 0 [])) ∧ Below W.heap.size W w') := hid (fun W bw => spec_KeyBytes k 0 0 0 (fun _ => rfl) ⟨rfl, .inl rfl, fun i => by simp⟩ (by omega) (by omega) (by omega) (by omega))
 have bdB := (keyB_bd (K := k) (N := 0) (f := 0) (n := 0) (zs := []) rfl (fun i => by simp) (by simp)).1
 have HQ := hid (str_eq (a := keyB k 0 0 0 []) (b := k :: ts) bdB hbd)
 rw [decide_eq_false HE.out] at HQ
 generalize keyB k 0 0 0 [] = BL at *
 have SB := hid (fun (w : World) (ad : Option Addr) (cap : Nat) (r : Reads w ad BL.length BL) => r.str cap 22 Tryz.underlying22 Tryz.underlying5 Tryz.underlying9)
 obtain ⟨c0, c1, c2, c3⟩ := row_cells RA.out
 have q := HQ.out
 clear HQ
 generalize str (k :: ts) = s2 at *
 generalize str BL = s1 at *
 have sb := HS.out W5.drew ((Still.drew W5).below _)
 go_region_with (go_at_call 78; refine (HK.out _ ((Still.drew W5).below _)).mono ?_; rintro e w6 ⟨v, rfl, o, b6⟩; obtain ⟨ad6, cap6, rfl, r6, _⟩ := Reads.own o bdB; have B6 := hid (((Still.drew W5).below W5.heap.size).trans (b6.mono (Nat.le_refl _))); have s6 := SB.out _ _ cap6 r6; have sb6 := HS.out w6 B6.out; clear o b6 r6)
 all_goals
  have R6 := hid ((B6.out.block w.heap.size (Nat.lt_of_succ_lt SZ.out)).trans RR.out)
  have A6 := hid ((B6.out.block (w.heap.size + 1) SZ.out).trans RA.out)
  have D6 := hid (BB.out.trans (B6.out.mono (Nat.le_of_lt (Nat.lt_of_succ_lt SZ.out))))
  clear RR RA BB HS HK c0 c1 c2 c3 s6 sb sb6
  go_wp2_with (first
   | (refine wpList_store_row rfl 29 (.tmp 2) (.tmp 52) rfl w.heap.size #[.int .i64 0, .int .i64 0, .float .f64 0, .slice none 0 0] rfl rfl 29 _ R6.out ?s1 ?s2 ?s3 ?_))
  case s1 => exact size29
  case s2 => rfl
  case s3 => simp [Value.oneCell']
  exact bodyPost_ret (results_cell_tmp Tryz.results99 _ _ w.heap.size 29 #[.int .i64 0, .int .i64 0, .float .f64 0, .slice none 0 0] (0, 0) _ rfl (setRow_heap _ _ _ _ _ _ R6.out) Tryz.underlying29 rfl size29) rfl ⟨rfl, below_setRow D6.out (Nat.le_refl _) _⟩
set_option maxRecDepth 100000 in
set_option maxHeartbeats 3200000 in
theorem spec_KeyRead_1y {b off n : Nat} (cap : Nat) (hcap : n ≤ cap) (hc2 : 2 ≤ cap) {ts : List Int} {w : World} (h1 : 1 ≤ n) (hm : n ≤ 41) (h : Reads w (some ⟨b, off, none⟩) n (1 :: ts)) (E : keyB 1 ((low ts : Int) - 9223372036854775808) 0 0 [] = 1 :: ts) :
 Calls Tryz.prog 99 #[.slice (some ⟨b, off, none⟩) n cap] w fun e w' => ∃ v, e = .returned (.tuple #[.agg #[.int .i64 1, .int .i64 ((low ts : Int) - 9223372036854775808), .float .f64 0, v], .bool true]) ∧ w'.ownsRow w.heap.size 5 1 v 0 (bys []) ∧ Below w.heap.size w w' := by
 have hl : ts.length = (n - 1) := by have := h.len; rw [List.length_cons] at this; omega
 have hbd := h.bd
 have hbt : ∀ i, 0 ≤ ts.getD i 0 ∧ ts.getD i 0 ≤ 255 := fun i => hbd (i + 1)
 have c0 : w.cell? ⟨b, off, none⟩ = some (.int .u8 1) := by
  rcases h.cells with h0 | ⟨b', off', e, hcc⟩
  · omega
  · cases e; exact hcc 0 (by omega)
 have rd : Reads w (some ⟨b, off + 1, none⟩) (n - 1) ts := by
  have := h.rest hcap
  rwa [show tl b off cap = (some ⟨b, off + 1, none⟩) by rw [tl, if_neg (by omega)]] at this
 have d0 := cell_oldx (.cells #[.int .i64 1, .int .i64 0, .float .f64 0, .slice none 0 0] 29) (cell_oldx (w := w) (.cells #[.int .i64 0, .int .i64 0, .float .f64 0, .slice none 0 0] 29) c0)
 have d00 := cell_oldx (.cells #[.int .i64 0, .int .i64 0, .float .f64 0, .slice none 0 0] 29) (cell_oldx (w := w) (.cells #[.int .i64 0, .int .i64 0, .float .f64 0, .slice none 0 0] 29) c0)
 have hst0 := fun w a m => run_store Tryz.prog w a (.float .f64 0) m rfl
 have i1 : (1 : Int) ≤ (n : Int) := by omega
 have i2 : (n : Int) ≤ 41 := by omega
 have i4 : (0 : Int) < (n : Int) := by omega
 have i6 : ¬ (n : Int) < 1 := by omega
 have i7 : ¬ (41 : Int) < (n : Int) := by omega
 have i8 : 0 < n := by omega
 have i10 : ¬ n = 0 := by omega
 have i12 : ¬ cap = 1 := by omega
 have j1 : (n : Int) ≤ (cap : Int) := by omega
 have j3 : ¬ cap = 0 := by omega
 have BW0 := hid (two w (.cells #[.int .i64 0, .int .i64 0, .float .f64 0, .slice none 0 0] 29) (.cells #[.int .i64 1, .int .i64 0, .float .f64 0, .slice none 0 0] 29))
 have RW0 := hid (two_rows w (.cells #[.int .i64 0, .int .i64 0, .float .f64 0, .slice none 0 0] 29) (.cells #[.int .i64 1, .int .i64 0, .float .f64 0, .slice none 0 0] 29))
 have HE := hid E
 have H := hid h
 have HRD := hid (rd.below BW0.out (Nat.le_refl _))
 have hx : low ts < 18446744073709551616 := low_lt ts 0 (by omega)
 have hX := xor_low (low ts) hx
 have BW1 := hid (two w (.cells #[.int .i64 0, .int .i64 0, .float .f64 0, .slice none 0 0] 29) (.cells #[.int .i64 1, .int .i64 ((low ts : Int) - 9223372036854775808), .float .f64 0, .slice none 0 0] 29))
 have RW1 := hid (two_rows w (.cells #[.int .i64 0, .int .i64 0, .float .f64 0, .slice none 0 0] 29) (.cells #[.int .i64 1, .int .i64 ((low ts : Int) - 9223372036854775808), .float .f64 0, .slice none 0 0] 29))
 clear c0 rd h E h1
 go_enter Tryz.func99, Tryz.ntmps99
 go_wp2_with fail
 refine (spec_l3low (cap - 1) HRD.out (by omega)).mono ?_
 rintro e w1 ⟨rfl, hw1⟩
 subst w1
 go_wp2_with fail
 have RR := hid RW1.out.1
 have RA := hid RW1.out.2.1
 have SZ := hid (show w.heap.size + 1 < ((w.alloc (.cells #[.int .i64 0, .int .i64 0, .float .f64 0, .slice none 0 0] 29)).alloc (.cells #[.int .i64 1, .int .i64 ((low ts : Int) - 9223372036854775808), .float .f64 0, .slice none 0 0] 29)).heap.size by have := RW1.out.2.2; omega)
 have BB := BW1
 have HB5 := hid (H.out.below BW1.out (Nat.le_refl _))
 generalize ((w.alloc (.cells #[.int .i64 0, .int .i64 0, .float .f64 0, .slice none 0 0] 29)).alloc (.cells #[.int .i64 1, .int .i64 ((low ts : Int) - 9223372036854775808), .float .f64 0, .slice none 0 0] 29)) = W5 at *
 have HS : Hid (∀ W, Below W5.heap.size W5 W → (convert 22 9 (.slice (some ⟨b, off, none⟩) n cap)).run Tryz.prog W = .ok (.string (str (1 :: ts))) W) := hid (fun W bw => (HB5.out.below bw (Nat.le_refl _)).str cap 22 Tryz.underlying22 Tryz.underlying5 Tryz.underlying9)
 have HK : Hid (∀ W, Below W5.heap.size W5 W → Calls Tryz.prog 78 #[.agg #[.int .i64 1, .int .i64 ((low ts : Int) - 9223372036854775808), .float .f64 0, .slice none 0 0]] W fun e w' => ∃ v, e = .returned v ∧ w'.ownsRow W.heap.size 5 1 v (keyB 1 ((low ts : Int) - 9223372036854775808) 0 0 []).length (bys (keyB 1 ((low ts : Int) - 9223372036854775808) 0 0 [])) ∧ Below W.heap.size W w') := hid (fun W bw => spec_KeyBytes 1 ((low ts : Int) - 9223372036854775808) 0 0 (fun _ => rfl) ⟨rfl, .inl rfl, fun i => by simp⟩ (by omega) (by omega) (by omega) (by omega))
 have bdB := (keyB_bd (K := 1) (N := ((low ts : Int) - 9223372036854775808)) (f := 0) (n := 0) (zs := []) rfl (fun i => by simp) (by simp)).1
 have HQ := hid (str_eq (a := keyB 1 ((low ts : Int) - 9223372036854775808) 0 0 []) (b := 1 :: ts) bdB hbd)
 rw [decide_eq_true HE.out] at HQ
 generalize keyB 1 ((low ts : Int) - 9223372036854775808) 0 0 [] = BL at *
 have SB := hid (fun (w : World) (ad : Option Addr) (cap : Nat) (r : Reads w ad BL.length BL) => r.str cap 22 Tryz.underlying22 Tryz.underlying5 Tryz.underlying9)
 obtain ⟨c0, c1, c2, c3⟩ := row_cells RA.out
 have q := HQ.out
 clear HQ
 generalize str (1 :: ts) = s2 at *
 generalize str BL = s1 at *
 have sb := HS.out W5.drew ((Still.drew W5).below _)
 go_region_with (go_at_call 78; refine (HK.out _ ((Still.drew W5).below _)).mono ?_; rintro e w6 ⟨v, rfl, o, b6⟩; obtain ⟨ad6, cap6, rfl, r6, _⟩ := Reads.own o bdB; have B6 := hid (((Still.drew W5).below W5.heap.size).trans (b6.mono (Nat.le_refl _))); have s6 := SB.out _ _ cap6 r6; have sb6 := HS.out w6 B6.out; clear o b6 r6)
 all_goals
  have R6 := hid ((B6.out.block w.heap.size (Nat.lt_of_succ_lt SZ.out)).trans RR.out)
  have A6 := hid ((B6.out.block (w.heap.size + 1) SZ.out).trans RA.out)
  have D6 := hid (BB.out.trans (B6.out.mono (Nat.le_of_lt (Nat.lt_of_succ_lt SZ.out))))
  clear RR RA BB HS HK c0 c1 c2 c3 s6 sb sb6
  go_wp2_with (first
   | (refine wpList_load_row rfl 29 (.tmp 4) rfl (w.heap.size + 1) rfl 29 _ (0, 0) _ A6.out Tryz.underlying29 rfl size29 ?_)
   | (refine wpList_store_row rfl 29 (.tmp 2) (.tmp 53) rfl w.heap.size #[.int .i64 1, .int .i64 ((low ts : Int) - 9223372036854775808), .float .f64 0, .slice none 0 0] rfl rfl 29 _ R6.out ?s1 ?s2 ?s3 ?_))
  case s1 => exact size29
  case s2 => rfl
  case s3 => simp [Value.oneCell']
  exact bodyPost_ret (results_cell_tmp Tryz.results99 _ _ w.heap.size 29 #[.int .i64 1, .int .i64 ((low ts : Int) - 9223372036854775808), .float .f64 0, .slice none 0 0] (0, 0) _ rfl (setRow_heap _ _ _ _ _ _ R6.out) Tryz.underlying29 rfl size29) rfl ⟨_, rfl, World.ownsRow_nil _ _ _ _, below_setRow D6.out (Nat.le_refl _) _⟩
end Go.Proofs.YtkfhfjghfadofaaGreat
/- The specification's KeyRead, by kinds. -/



namespace Go.Proofs.YtkfhfjghfadofaaGreat
open Go.RowKit
set_option maxRecDepth 100000 in
set_option maxHeartbeats 3200000 in
theorem spec_KeyRead_1n {b off n : Nat} (cap : Nat) (hcap : n ≤ cap) (hc2 : 2 ≤ cap) {ts : List Int} {w : World} (h1 : 1 ≤ n) (hm : n ≤ 41) (h : Reads w (some ⟨b, off, none⟩) n (1 :: ts)) (E : keyB 1 ((low ts : Int) - 9223372036854775808) 0 0 [] ≠ 1 :: ts) :
 Calls Tryz.prog 99 #[.slice (some ⟨b, off, none⟩) n cap] w fun e w' => e = .returned (.tuple #[.agg #[.int .i64 0, .int .i64 0, .float .f64 0, .slice none 0 0], .bool false]) ∧ Below w.heap.size w w' := by
 have hl : ts.length = (n - 1) := by have := h.len; rw [List.length_cons] at this; omega
 have hbd := h.bd
 have hbt : ∀ i, 0 ≤ ts.getD i 0 ∧ ts.getD i 0 ≤ 255 := fun i => hbd (i + 1)
 have c0 : w.cell? ⟨b, off, none⟩ = some (.int .u8 1) := by
  rcases h.cells with h0 | ⟨b', off', e, hcc⟩
  · omega
  · cases e; exact hcc 0 (by omega)
 have rd : Reads w (some ⟨b, off + 1, none⟩) (n - 1) ts := by
  have := h.rest hcap
  rwa [show tl b off cap = (some ⟨b, off + 1, none⟩) by rw [tl, if_neg (by omega)]] at this
 have d0 := cell_oldx (.cells #[.int .i64 1, .int .i64 0, .float .f64 0, .slice none 0 0] 29) (cell_oldx (w := w) (.cells #[.int .i64 0, .int .i64 0, .float .f64 0, .slice none 0 0] 29) c0)
 have d00 := cell_oldx (.cells #[.int .i64 0, .int .i64 0, .float .f64 0, .slice none 0 0] 29) (cell_oldx (w := w) (.cells #[.int .i64 0, .int .i64 0, .float .f64 0, .slice none 0 0] 29) c0)
 have hst0 := fun w a m => run_store Tryz.prog w a (.float .f64 0) m rfl
 have i1 : (1 : Int) ≤ (n : Int) := by omega
 have i2 : (n : Int) ≤ 41 := by omega
 have i4 : (0 : Int) < (n : Int) := by omega
 have i6 : ¬ (n : Int) < 1 := by omega
 have i7 : ¬ (41 : Int) < (n : Int) := by omega
 have i8 : 0 < n := by omega
 have i10 : ¬ n = 0 := by omega
 have i12 : ¬ cap = 1 := by omega
 have j1 : (n : Int) ≤ (cap : Int) := by omega
 have j3 : ¬ cap = 0 := by omega
 have BW0 := hid (two w (.cells #[.int .i64 0, .int .i64 0, .float .f64 0, .slice none 0 0] 29) (.cells #[.int .i64 1, .int .i64 0, .float .f64 0, .slice none 0 0] 29))
 have RW0 := hid (two_rows w (.cells #[.int .i64 0, .int .i64 0, .float .f64 0, .slice none 0 0] 29) (.cells #[.int .i64 1, .int .i64 0, .float .f64 0, .slice none 0 0] 29))
 have HE := hid E
 have H := hid h
 have HRD := hid (rd.below BW0.out (Nat.le_refl _))
 have hx : low ts < 18446744073709551616 := low_lt ts 0 (by omega)
 have hX := xor_low (low ts) hx
 have BW1 := hid (two w (.cells #[.int .i64 0, .int .i64 0, .float .f64 0, .slice none 0 0] 29) (.cells #[.int .i64 1, .int .i64 ((low ts : Int) - 9223372036854775808), .float .f64 0, .slice none 0 0] 29))
 have RW1 := hid (two_rows w (.cells #[.int .i64 0, .int .i64 0, .float .f64 0, .slice none 0 0] 29) (.cells #[.int .i64 1, .int .i64 ((low ts : Int) - 9223372036854775808), .float .f64 0, .slice none 0 0] 29))
 clear c0 rd h E h1
 go_enter Tryz.func99, Tryz.ntmps99
 go_wp2_with fail
 refine (spec_l3low (cap - 1) HRD.out (by omega)).mono ?_
 rintro e w1 ⟨rfl, hw1⟩
 subst w1
 go_wp2_with fail
 have RR := hid RW1.out.1
 have RA := hid RW1.out.2.1
 have SZ := hid (show w.heap.size + 1 < ((w.alloc (.cells #[.int .i64 0, .int .i64 0, .float .f64 0, .slice none 0 0] 29)).alloc (.cells #[.int .i64 1, .int .i64 ((low ts : Int) - 9223372036854775808), .float .f64 0, .slice none 0 0] 29)).heap.size by have := RW1.out.2.2; omega)
 have BB := BW1
 have HB5 := hid (H.out.below BW1.out (Nat.le_refl _))
 generalize ((w.alloc (.cells #[.int .i64 0, .int .i64 0, .float .f64 0, .slice none 0 0] 29)).alloc (.cells #[.int .i64 1, .int .i64 ((low ts : Int) - 9223372036854775808), .float .f64 0, .slice none 0 0] 29)) = W5 at *
 have HS : Hid (∀ W, Below W5.heap.size W5 W → (convert 22 9 (.slice (some ⟨b, off, none⟩) n cap)).run Tryz.prog W = .ok (.string (str (1 :: ts))) W) := hid (fun W bw => (HB5.out.below bw (Nat.le_refl _)).str cap 22 Tryz.underlying22 Tryz.underlying5 Tryz.underlying9)
 have HK : Hid (∀ W, Below W5.heap.size W5 W → Calls Tryz.prog 78 #[.agg #[.int .i64 1, .int .i64 ((low ts : Int) - 9223372036854775808), .float .f64 0, .slice none 0 0]] W fun e w' => ∃ v, e = .returned v ∧ w'.ownsRow W.heap.size 5 1 v (keyB 1 ((low ts : Int) - 9223372036854775808) 0 0 []).length (bys (keyB 1 ((low ts : Int) - 9223372036854775808) 0 0 [])) ∧ Below W.heap.size W w') := hid (fun W bw => spec_KeyBytes 1 ((low ts : Int) - 9223372036854775808) 0 0 (fun _ => rfl) ⟨rfl, .inl rfl, fun i => by simp⟩ (by omega) (by omega) (by omega) (by omega))
 have bdB := (keyB_bd (K := 1) (N := ((low ts : Int) - 9223372036854775808)) (f := 0) (n := 0) (zs := []) rfl (fun i => by simp) (by simp)).1
 have HQ := hid (str_eq (a := keyB 1 ((low ts : Int) - 9223372036854775808) 0 0 []) (b := 1 :: ts) bdB hbd)
 rw [decide_eq_false HE.out] at HQ
 generalize keyB 1 ((low ts : Int) - 9223372036854775808) 0 0 [] = BL at *
 have SB := hid (fun (w : World) (ad : Option Addr) (cap : Nat) (r : Reads w ad BL.length BL) => r.str cap 22 Tryz.underlying22 Tryz.underlying5 Tryz.underlying9)
 obtain ⟨c0, c1, c2, c3⟩ := row_cells RA.out
 have q := HQ.out
 clear HQ
 generalize str (1 :: ts) = s2 at *
 generalize str BL = s1 at *
 have sb := HS.out W5.drew ((Still.drew W5).below _)
 go_region_with (go_at_call 78; refine (HK.out _ ((Still.drew W5).below _)).mono ?_; rintro e w6 ⟨v, rfl, o, b6⟩; obtain ⟨ad6, cap6, rfl, r6, _⟩ := Reads.own o bdB; have B6 := hid (((Still.drew W5).below W5.heap.size).trans (b6.mono (Nat.le_refl _))); have s6 := SB.out _ _ cap6 r6; have sb6 := HS.out w6 B6.out; clear o b6 r6)
 all_goals
  have R6 := hid ((B6.out.block w.heap.size (Nat.lt_of_succ_lt SZ.out)).trans RR.out)
  have A6 := hid ((B6.out.block (w.heap.size + 1) SZ.out).trans RA.out)
  have D6 := hid (BB.out.trans (B6.out.mono (Nat.le_of_lt (Nat.lt_of_succ_lt SZ.out))))
  clear RR RA BB HS HK c0 c1 c2 c3 s6 sb sb6
  go_wp2_with (first
   | (refine wpList_store_row rfl 29 (.tmp 2) (.tmp 52) rfl w.heap.size #[.int .i64 0, .int .i64 0, .float .f64 0, .slice none 0 0] rfl rfl 29 _ R6.out ?s1 ?s2 ?s3 ?_))
  case s1 => exact size29
  case s2 => rfl
  case s3 => simp [Value.oneCell']
  exact bodyPost_ret (results_cell_tmp Tryz.results99 _ _ w.heap.size 29 #[.int .i64 0, .int .i64 0, .float .f64 0, .slice none 0 0] (0, 0) _ rfl (setRow_heap _ _ _ _ _ _ R6.out) Tryz.underlying29 rfl size29) rfl ⟨rfl, below_setRow D6.out (Nat.le_refl _) _⟩
set_option maxRecDepth 100000 in
set_option maxHeartbeats 3200000 in
theorem spec_KeyRead_2y {b off n : Nat} (cap : Nat) (hcap : n ≤ cap) (hc2 : 2 ≤ cap) {ts : List Int} {w : World} (h1 : 1 ≤ n) (hm : n ≤ 41) (P : Nat → Prop) (D : ∀ W : World, Calls Tryz.prog 141 #[.int .u64 (low ts : Int)] W fun e w' => ∃ (y : Nat) (okk : Bool), e = .returned (.tuple #[.float .f64 y, .bool okk]) ∧ y < 18446744073709551616 ∧ Hid (P y) ∧ Still W w') (h : Reads w (some ⟨b, off, none⟩) n (2 :: ts)) (E : ∀ y : Nat, y < 18446744073709551616 → P y → keyB 2 0 y 0 [] = 2 :: ts) :
 Calls Tryz.prog 99 #[.slice (some ⟨b, off, none⟩) n cap] w fun e w' => ∃ (y : Nat) (v : Value), e = .returned (.tuple #[.agg #[.int .i64 2, .int .i64 0, .float .f64 y, v], .bool true]) ∧ y < 18446744073709551616 ∧ Hid (P y) ∧ w'.ownsRow w.heap.size 5 1 v 0 (bys []) ∧ Below w.heap.size w w' := by
 have hl : ts.length = (n - 1) := by have := h.len; rw [List.length_cons] at this; omega
 have hbd := h.bd
 have hbt : ∀ i, 0 ≤ ts.getD i 0 ∧ ts.getD i 0 ≤ 255 := fun i => hbd (i + 1)
 have c0 : w.cell? ⟨b, off, none⟩ = some (.int .u8 2) := by
  rcases h.cells with h0 | ⟨b', off', e, hcc⟩
  · omega
  · cases e; exact hcc 0 (by omega)
 have rd : Reads w (some ⟨b, off + 1, none⟩) (n - 1) ts := by
  have := h.rest hcap
  rwa [show tl b off cap = (some ⟨b, off + 1, none⟩) by rw [tl, if_neg (by omega)]] at this
 have d0 := cell_oldx (.cells #[.int .i64 2, .int .i64 0, .float .f64 0, .slice none 0 0] 29) (cell_oldx (w := w) (.cells #[.int .i64 0, .int .i64 0, .float .f64 0, .slice none 0 0] 29) c0)
 have d00 := cell_oldx (.cells #[.int .i64 0, .int .i64 0, .float .f64 0, .slice none 0 0] 29) (cell_oldx (w := w) (.cells #[.int .i64 0, .int .i64 0, .float .f64 0, .slice none 0 0] 29) c0)
 have hst0 := fun w a m => run_store Tryz.prog w a (.float .f64 0) m rfl
 have i1 : (1 : Int) ≤ (n : Int) := by omega
 have i2 : (n : Int) ≤ 41 := by omega
 have i4 : (0 : Int) < (n : Int) := by omega
 have i6 : ¬ (n : Int) < 1 := by omega
 have i7 : ¬ (41 : Int) < (n : Int) := by omega
 have i8 : 0 < n := by omega
 have i10 : ¬ n = 0 := by omega
 have i12 : ¬ cap = 1 := by omega
 have j1 : (n : Int) ≤ (cap : Int) := by omega
 have j3 : ¬ cap = 0 := by omega
 have BW0 := hid (two w (.cells #[.int .i64 0, .int .i64 0, .float .f64 0, .slice none 0 0] 29) (.cells #[.int .i64 2, .int .i64 0, .float .f64 0, .slice none 0 0] 29))
 have RW0 := hid (two_rows w (.cells #[.int .i64 0, .int .i64 0, .float .f64 0, .slice none 0 0] 29) (.cells #[.int .i64 2, .int .i64 0, .float .f64 0, .slice none 0 0] 29))
 have HE := hid E
 have H := hid h
 have HRD := hid (rd.below BW0.out (Nat.le_refl _))
 have hx : low ts < 18446744073709551616 := low_lt ts 0 (by omega)
 have HD := hid D
 clear c0 rd h E h1 D
 go_enter Tryz.func99, Tryz.ntmps99
 go_wp2_with fail
 refine (spec_l3low (cap - 1) HRD.out (by omega)).mono ?_
 rintro e w1 ⟨rfl, hw1⟩
 subst w1
 go_wp2_with fail
 refine (HD.out _).mono ?_
 rintro e w2 ⟨y, okk, rfl, hy, HP, s2⟩
 have hsty := fun w a m => run_store Tryz.prog w a (.float .f64 y) m rfl
 replace HE := hid (HE.out y hy HP.out)
 have SA : w2.heap[w.heap.size + 1]? = some (.cells #[.int .i64 2, .int .i64 0, .float .f64 0, .slice none 0 0] 29) := by rw [s2.heap]; exact RW0.out.2.1
 have SR : w2.heap[w.heap.size]? = some (.cells #[.int .i64 0, .int .i64 0, .float .f64 0, .slice none 0 0] 29) := by rw [s2.heap]; exact RW0.out.1
 have e2 : w2.cell? ⟨w.heap.size + 1, 2, none⟩ = some (.float .f64 0) := by rw [cell_of_row _ _ _ _ _ _ SA]; rfl
 have fz : w2.frozen? ⟨w.heap.size + 1, 2, none⟩ = false := frozen_of_row _ _ _ _ _ SA
 have RA := hid (heap_setCell_same w2 (w.heap.size + 1) 2 _ 29 (.float .f64 y) SA)
 have RR := hid ((heap_setCell_other w2 ⟨w.heap.size + 1, 2, none⟩ w.heap.size (.float .f64 y) (by simp)).trans SR)
 have bw2 : Below w.heap.size w w2 := BW0.out.trans (s2.below _)
 have BB := hid (bw2.setCell (p := ⟨w.heap.size + 1, 2, none⟩) (by simp) (.float .f64 y))
 have HB5 := hid (H.out.below BB.out (Nat.le_refl _))
 have SZ := hid (show w.heap.size + 1 < (w2.setCell ⟨w.heap.size + 1, 2, none⟩ (.float .f64 y)).heap.size by have h3 := RW0.out.2.2; have h4 := s2.size; rw [setCell_size]; omega)
 clear SA SR bw2 s2
 go_wp2_with fail
 generalize w2.setCell ⟨w.heap.size + 1, 2, none⟩ (.float .f64 y) = W5 at *
 clear e2 fz
 have HS : Hid (∀ W, Below W5.heap.size W5 W → (convert 22 9 (.slice (some ⟨b, off, none⟩) n cap)).run Tryz.prog W = .ok (.string (str (2 :: ts))) W) := hid (fun W bw => (HB5.out.below bw (Nat.le_refl _)).str cap 22 Tryz.underlying22 Tryz.underlying5 Tryz.underlying9)
 have HK : Hid (∀ W, Below W5.heap.size W5 W → Calls Tryz.prog 78 #[.agg #[.int .i64 2, .int .i64 0, .float .f64 y, .slice none 0 0]] W fun e w' => ∃ v, e = .returned v ∧ w'.ownsRow W.heap.size 5 1 v (keyB 2 0 y 0 []).length (bys (keyB 2 0 y 0 [])) ∧ Below W.heap.size W w') := hid (fun W bw => spec_KeyBytes 2 0 y 0 (fun _ => rfl) ⟨rfl, .inl rfl, fun i => by simp⟩ (by omega) (by omega) (by omega) hy)
 have bdB := (keyB_bd (K := 2) (N := 0) (f := y) (n := 0) (zs := []) rfl (fun i => by simp) (by simp)).1
 have HQ := hid (str_eq (a := keyB 2 0 y 0 []) (b := 2 :: ts) bdB hbd)
 rw [decide_eq_true HE.out] at HQ
 generalize keyB 2 0 y 0 [] = BL at *
 have SB := hid (fun (w : World) (ad : Option Addr) (cap : Nat) (r : Reads w ad BL.length BL) => r.str cap 22 Tryz.underlying22 Tryz.underlying5 Tryz.underlying9)
 obtain ⟨c0, c1, c2, c3⟩ := row_cells RA.out
 have q := HQ.out
 clear HQ
 generalize str (2 :: ts) = s2 at *
 generalize str BL = s1 at *
 have sb := HS.out W5.drew ((Still.drew W5).below _)
 go_region_with (go_at_call 78; refine (HK.out _ ((Still.drew W5).below _)).mono ?_; rintro e w6 ⟨v, rfl, o, b6⟩; obtain ⟨ad6, cap6, rfl, r6, _⟩ := Reads.own o bdB; have B6 := hid (((Still.drew W5).below W5.heap.size).trans (b6.mono (Nat.le_refl _))); have s6 := SB.out _ _ cap6 r6; have sb6 := HS.out w6 B6.out; clear o b6 r6)
 all_goals
  have R6 := hid ((B6.out.block w.heap.size (Nat.lt_of_succ_lt SZ.out)).trans RR.out)
  have A6 := hid ((B6.out.block (w.heap.size + 1) SZ.out).trans RA.out)
  have D6 := hid (BB.out.trans (B6.out.mono (Nat.le_of_lt (Nat.lt_of_succ_lt SZ.out))))
  clear RR RA BB HS HK c0 c1 c2 c3 s6 sb sb6
  go_wp2_with (first
   | (refine wpList_load_row rfl 29 (.tmp 4) rfl (w.heap.size + 1) rfl 29 _ (0, 0) _ A6.out Tryz.underlying29 rfl size29 ?_)
   | (refine wpList_store_row rfl 29 (.tmp 2) (.tmp 53) rfl w.heap.size #[.int .i64 2, .int .i64 0, .float .f64 y, .slice none 0 0] rfl rfl 29 _ R6.out ?s1 ?s2 ?s3 ?_))
  case s1 => exact size29
  case s2 => rfl
  case s3 => simp [Value.oneCell']
  exact bodyPost_ret (results_cell_tmp Tryz.results99 _ _ w.heap.size 29 #[.int .i64 2, .int .i64 0, .float .f64 y, .slice none 0 0] (0, 0) _ rfl (setRow_heap _ _ _ _ _ _ R6.out) Tryz.underlying29 rfl size29) rfl ⟨_, _, rfl, hy, HP, World.ownsRow_nil _ _ _ _, below_setRow D6.out (Nat.le_refl _) _⟩
set_option maxRecDepth 100000 in
set_option maxHeartbeats 3200000 in
theorem spec_KeyRead_2n {b off n : Nat} (cap : Nat) (hcap : n ≤ cap) (hc2 : 2 ≤ cap) {ts : List Int} {w : World} (h1 : 1 ≤ n) (hm : n ≤ 41) (P : Nat → Prop) (D : ∀ W : World, Calls Tryz.prog 141 #[.int .u64 (low ts : Int)] W fun e w' => ∃ (y : Nat) (okk : Bool), e = .returned (.tuple #[.float .f64 y, .bool okk]) ∧ y < 18446744073709551616 ∧ Hid (P y) ∧ Still W w') (h : Reads w (some ⟨b, off, none⟩) n (2 :: ts)) (E : ∀ y : Nat, y < 18446744073709551616 → P y → keyB 2 0 y 0 [] ≠ 2 :: ts) :
 Calls Tryz.prog 99 #[.slice (some ⟨b, off, none⟩) n cap] w fun e w' => e = .returned (.tuple #[.agg #[.int .i64 0, .int .i64 0, .float .f64 0, .slice none 0 0], .bool false]) ∧ Below w.heap.size w w' := by
 have hl : ts.length = (n - 1) := by have := h.len; rw [List.length_cons] at this; omega
 have hbd := h.bd
 have hbt : ∀ i, 0 ≤ ts.getD i 0 ∧ ts.getD i 0 ≤ 255 := fun i => hbd (i + 1)
 have c0 : w.cell? ⟨b, off, none⟩ = some (.int .u8 2) := by
  rcases h.cells with h0 | ⟨b', off', e, hcc⟩
  · omega
  · cases e; exact hcc 0 (by omega)
 have rd : Reads w (some ⟨b, off + 1, none⟩) (n - 1) ts := by
  have := h.rest hcap
  rwa [show tl b off cap = (some ⟨b, off + 1, none⟩) by rw [tl, if_neg (by omega)]] at this
 have d0 := cell_oldx (.cells #[.int .i64 2, .int .i64 0, .float .f64 0, .slice none 0 0] 29) (cell_oldx (w := w) (.cells #[.int .i64 0, .int .i64 0, .float .f64 0, .slice none 0 0] 29) c0)
 have d00 := cell_oldx (.cells #[.int .i64 0, .int .i64 0, .float .f64 0, .slice none 0 0] 29) (cell_oldx (w := w) (.cells #[.int .i64 0, .int .i64 0, .float .f64 0, .slice none 0 0] 29) c0)
 have hst0 := fun w a m => run_store Tryz.prog w a (.float .f64 0) m rfl
 have i1 : (1 : Int) ≤ (n : Int) := by omega
 have i2 : (n : Int) ≤ 41 := by omega
 have i4 : (0 : Int) < (n : Int) := by omega
 have i6 : ¬ (n : Int) < 1 := by omega
 have i7 : ¬ (41 : Int) < (n : Int) := by omega
 have i8 : 0 < n := by omega
 have i10 : ¬ n = 0 := by omega
 have i12 : ¬ cap = 1 := by omega
 have j1 : (n : Int) ≤ (cap : Int) := by omega
 have j3 : ¬ cap = 0 := by omega
 have BW0 := hid (two w (.cells #[.int .i64 0, .int .i64 0, .float .f64 0, .slice none 0 0] 29) (.cells #[.int .i64 2, .int .i64 0, .float .f64 0, .slice none 0 0] 29))
 have RW0 := hid (two_rows w (.cells #[.int .i64 0, .int .i64 0, .float .f64 0, .slice none 0 0] 29) (.cells #[.int .i64 2, .int .i64 0, .float .f64 0, .slice none 0 0] 29))
 have HE := hid E
 have H := hid h
 have HRD := hid (rd.below BW0.out (Nat.le_refl _))
 have hx : low ts < 18446744073709551616 := low_lt ts 0 (by omega)
 have HD := hid D
 clear c0 rd h E h1 D
 go_enter Tryz.func99, Tryz.ntmps99
 go_wp2_with fail
 refine (spec_l3low (cap - 1) HRD.out (by omega)).mono ?_
 rintro e w1 ⟨rfl, hw1⟩
 subst w1
 go_wp2_with fail
 refine (HD.out _).mono ?_
 rintro e w2 ⟨y, okk, rfl, hy, HP, s2⟩
 have hsty := fun w a m => run_store Tryz.prog w a (.float .f64 y) m rfl
 replace HE := hid (HE.out y hy HP.out)
 have SA : w2.heap[w.heap.size + 1]? = some (.cells #[.int .i64 2, .int .i64 0, .float .f64 0, .slice none 0 0] 29) := by rw [s2.heap]; exact RW0.out.2.1
 have SR : w2.heap[w.heap.size]? = some (.cells #[.int .i64 0, .int .i64 0, .float .f64 0, .slice none 0 0] 29) := by rw [s2.heap]; exact RW0.out.1
 have e2 : w2.cell? ⟨w.heap.size + 1, 2, none⟩ = some (.float .f64 0) := by rw [cell_of_row _ _ _ _ _ _ SA]; rfl
 have fz : w2.frozen? ⟨w.heap.size + 1, 2, none⟩ = false := frozen_of_row _ _ _ _ _ SA
 have RA := hid (heap_setCell_same w2 (w.heap.size + 1) 2 _ 29 (.float .f64 y) SA)
 have RR := hid ((heap_setCell_other w2 ⟨w.heap.size + 1, 2, none⟩ w.heap.size (.float .f64 y) (by simp)).trans SR)
 have bw2 : Below w.heap.size w w2 := BW0.out.trans (s2.below _)
 have BB := hid (bw2.setCell (p := ⟨w.heap.size + 1, 2, none⟩) (by simp) (.float .f64 y))
 have HB5 := hid (H.out.below BB.out (Nat.le_refl _))
 have SZ := hid (show w.heap.size + 1 < (w2.setCell ⟨w.heap.size + 1, 2, none⟩ (.float .f64 y)).heap.size by have h3 := RW0.out.2.2; have h4 := s2.size; rw [setCell_size]; omega)
 clear SA SR bw2 s2
 go_wp2_with fail
 generalize w2.setCell ⟨w.heap.size + 1, 2, none⟩ (.float .f64 y) = W5 at *
 clear e2 fz
 have HS : Hid (∀ W, Below W5.heap.size W5 W → (convert 22 9 (.slice (some ⟨b, off, none⟩) n cap)).run Tryz.prog W = .ok (.string (str (2 :: ts))) W) := hid (fun W bw => (HB5.out.below bw (Nat.le_refl _)).str cap 22 Tryz.underlying22 Tryz.underlying5 Tryz.underlying9)
 have HK : Hid (∀ W, Below W5.heap.size W5 W → Calls Tryz.prog 78 #[.agg #[.int .i64 2, .int .i64 0, .float .f64 y, .slice none 0 0]] W fun e w' => ∃ v, e = .returned v ∧ w'.ownsRow W.heap.size 5 1 v (keyB 2 0 y 0 []).length (bys (keyB 2 0 y 0 [])) ∧ Below W.heap.size W w') := hid (fun W bw => spec_KeyBytes 2 0 y 0 (fun _ => rfl) ⟨rfl, .inl rfl, fun i => by simp⟩ (by omega) (by omega) (by omega) hy)
 have bdB := (keyB_bd (K := 2) (N := 0) (f := y) (n := 0) (zs := []) rfl (fun i => by simp) (by simp)).1
 have HQ := hid (str_eq (a := keyB 2 0 y 0 []) (b := 2 :: ts) bdB hbd)
 rw [decide_eq_false HE.out] at HQ
 generalize keyB 2 0 y 0 [] = BL at *
 have SB := hid (fun (w : World) (ad : Option Addr) (cap : Nat) (r : Reads w ad BL.length BL) => r.str cap 22 Tryz.underlying22 Tryz.underlying5 Tryz.underlying9)
 obtain ⟨c0, c1, c2, c3⟩ := row_cells RA.out
 have q := HQ.out
 clear HQ
 generalize str (2 :: ts) = s2 at *
 generalize str BL = s1 at *
 have sb := HS.out W5.drew ((Still.drew W5).below _)
 go_region_with (go_at_call 78; refine (HK.out _ ((Still.drew W5).below _)).mono ?_; rintro e w6 ⟨v, rfl, o, b6⟩; obtain ⟨ad6, cap6, rfl, r6, _⟩ := Reads.own o bdB; have B6 := hid (((Still.drew W5).below W5.heap.size).trans (b6.mono (Nat.le_refl _))); have s6 := SB.out _ _ cap6 r6; have sb6 := HS.out w6 B6.out; clear o b6 r6)
 all_goals
  have R6 := hid ((B6.out.block w.heap.size (Nat.lt_of_succ_lt SZ.out)).trans RR.out)
  have A6 := hid ((B6.out.block (w.heap.size + 1) SZ.out).trans RA.out)
  have D6 := hid (BB.out.trans (B6.out.mono (Nat.le_of_lt (Nat.lt_of_succ_lt SZ.out))))
  clear RR RA BB HS HK c0 c1 c2 c3 s6 sb sb6
  go_wp2_with (first
   | (refine wpList_store_row rfl 29 (.tmp 2) (.tmp 52) rfl w.heap.size #[.int .i64 0, .int .i64 0, .float .f64 0, .slice none 0 0] rfl rfl 29 _ R6.out ?s1 ?s2 ?s3 ?_))
  case s1 => exact size29
  case s2 => rfl
  case s3 => simp [Value.oneCell']
  exact bodyPost_ret (results_cell_tmp Tryz.results99 _ _ w.heap.size 29 #[.int .i64 0, .int .i64 0, .float .f64 0, .slice none 0 0] (0, 0) _ rfl (setRow_heap _ _ _ _ _ _ R6.out) Tryz.underlying29 rfl size29) rfl ⟨rfl, below_setRow D6.out (Nat.le_refl _) _⟩
set_option maxRecDepth 100000 in
set_option maxHeartbeats 3200000 in
theorem spec_KeyRead_3y {b off n : Nat} (cap : Nat) (hcap : n ≤ cap) (hc2 : 2 ≤ cap) {ts : List Int} {w : World} (h1 : 1 ≤ n) (hm : n ≤ 41) (h : Reads w (some ⟨b, off, none⟩) n (3 :: ts)) (E : keyB 3 0 0 (n - 1) ts = 3 :: ts) :
 Calls Tryz.prog 99 #[.slice (some ⟨b, off, none⟩) n cap] w fun e w' => ∃ v, e = .returned (.tuple #[.agg #[.int .i64 3, .int .i64 0, .float .f64 0, v], .bool true]) ∧ w'.ownsRow w.heap.size 5 1 v (n - 1) (bys ts) ∧ Below w.heap.size w w' := by
 have hl : ts.length = (n - 1) := by have := h.len; rw [List.length_cons] at this; omega
 have hbd := h.bd
 have hbt : ∀ i, 0 ≤ ts.getD i 0 ∧ ts.getD i 0 ≤ 255 := fun i => hbd (i + 1)
 have c0 : w.cell? ⟨b, off, none⟩ = some (.int .u8 3) := by
  rcases h.cells with h0 | ⟨b', off', e, hcc⟩
  · omega
  · cases e; exact hcc 0 (by omega)
 have rd : Reads w (some ⟨b, off + 1, none⟩) (n - 1) ts := by
  have := h.rest hcap
  rwa [show tl b off cap = (some ⟨b, off + 1, none⟩) by rw [tl, if_neg (by omega)]] at this
 have d0 := cell_oldx (.cells #[.int .i64 3, .int .i64 0, .float .f64 0, .slice none 0 0] 29) (cell_oldx (w := w) (.cells #[.int .i64 0, .int .i64 0, .float .f64 0, .slice none 0 0] 29) c0)
 have d00 := cell_oldx (.cells #[.int .i64 0, .int .i64 0, .float .f64 0, .slice none 0 0] 29) (cell_oldx (w := w) (.cells #[.int .i64 0, .int .i64 0, .float .f64 0, .slice none 0 0] 29) c0)
 have hst0 := fun w a m => run_store Tryz.prog w a (.float .f64 0) m rfl
 have i1 : (1 : Int) ≤ (n : Int) := by omega
 have i2 : (n : Int) ≤ 41 := by omega
 have i4 : (0 : Int) < (n : Int) := by omega
 have i6 : ¬ (n : Int) < 1 := by omega
 have i7 : ¬ (41 : Int) < (n : Int) := by omega
 have i8 : 0 < n := by omega
 have i10 : ¬ n = 0 := by omega
 have i12 : ¬ cap = 1 := by omega
 have j1 : (n : Int) ≤ (cap : Int) := by omega
 have j3 : ¬ cap = 0 := by omega
 have BW0 := hid (two w (.cells #[.int .i64 0, .int .i64 0, .float .f64 0, .slice none 0 0] 29) (.cells #[.int .i64 3, .int .i64 0, .float .f64 0, .slice none 0 0] 29))
 have RW0 := hid (two_rows w (.cells #[.int .i64 0, .int .i64 0, .float .f64 0, .slice none 0 0] 29) (.cells #[.int .i64 3, .int .i64 0, .float .f64 0, .slice none 0 0] 29))
 have HE := hid E
 have H := hid h
 have HRD := hid (rd.below BW0.out (Nat.le_refl _))
 clear c0 rd h E h1
 go_enter Tryz.func99, Tryz.ntmps99
 obtain ⟨i0, hi, hz0, hz1, hz2⟩ := info_parts Tryz.info5
 have O5 := hid (World.ownsRow_lit (base := w.heap.size + 2) (e := 5) (size := 1) ((w.alloc (.cells #[.int .i64 0, .int .i64 0, .float .f64 0, .slice none 0 0] 29)).alloc (.cells #[.int .i64 3, .int .i64 0, .float .f64 0, .slice none 0 0] 29)) #[] 0 (by have := RW0.out.2.2; omega) (Nat.zero_le _) rfl)
 have HZ := hid (alloc_size ((w.alloc (.cells #[.int .i64 0, .int .i64 0, .float .f64 0, .slice none 0 0] 29)).alloc (.cells #[.int .i64 3, .int .i64 0, .float .f64 0, .slice none 0 0] 29)) (.cells #[] 5))
 have HR5 := hid (HRD.out.alloc (.cells #[] 5))
 have HB0 := hid (BW0.out.alloc BW0.out.size (.cells #[] 5))
 rw [RW0.out.2.2] at O5 HZ
 go_wp2_with (at_builtin; refine wpList_append_own _ rfl _ _ 22 rfl (w.heap.size + 2) 5 i0 (.int .u8 0) 1 1 Tryz.underlying22 hi hz0 hz1 hz2 rfl (by decide) _ _ _ rfl O5.out ⟨b, off + 1, none⟩ (n - 1) (cap - 1) (bys ts) rfl ?k2 HR5.out.news (bys_one _) ?k4 ?k5 ?k6 ?_)
 case k2 => simp [bys_length, hl]
 case k4 => unfold maxLen; omega
 case k5 => omega
 intro v7 w7 o7 g7 _
 have o8 : w7.ownsRow (w.heap.size + 2) 5 1 v7 (n - 1) (bys ts) := by simpa [bys] using o7
 obtain ⟨ad7, cap7, rfl, r7, d7⟩ := Reads.own o8 hbt
 have zW := HZ.out
 have rw0 := RW0.out
 have SA : w7.heap[w.heap.size + 1]? = _ := (g7.block _ (by omega) (fun e => by have := (O5.out.lt _ e.symm).1; omega)).trans ((heap_alloc_old _ _ (by omega)).trans rw0.2.1)
 have SR : w7.heap[w.heap.size]? = _ := (g7.block _ (by omega) (fun e => by have := (O5.out.lt _ e.symm).1; omega)).trans ((heap_alloc_old _ _ (by omega)).trans rw0.1)
 have e2 : w7.cell? ⟨w.heap.size + 1, 3, none⟩ = some (.slice none 0 0) := by rw [cell_of_row _ _ _ _ _ _ SA]; rfl
 have fz : w7.frozen? ⟨w.heap.size + 1, 3, none⟩ = false := frozen_of_row _ _ _ _ _ SA
 have RA := hid (heap_setCell_same w7 (w.heap.size + 1) 3 _ 29 (.slice ad7 (n - 1) cap7) SA)
 have RR := hid ((heap_setCell_other w7 ⟨w.heap.size + 1, 3, none⟩ w.heap.size (.slice ad7 (n - 1) cap7) (by simp)).trans SR)
 have bw7 : Below w.heap.size w w7 := HB0.out.grown g7 (by have := HB0.out.size; omega) (fun k hk => by have := (O5.out.lt k hk).1; omega)
 have BB := hid (bw7.setCell (p := ⟨w.heap.size + 1, 3, none⟩) (by simp) (.slice ad7 (n - 1) cap7))
 have HB5 := hid (H.out.below BB.out (Nat.le_refl _))
 have O7 := hid (owns_at (w' := w7.setCell ⟨w.heap.size + 1, 3, none⟩ (.slice ad7 (n - 1) cap7)) o8 (fun k hk => heap_setCell_other _ _ _ _ (by simp; omega)))
 have SZ := hid (show w.heap.size + 1 < (w7.setCell ⟨w.heap.size + 1, 3, none⟩ (.slice ad7 (n - 1) cap7)).heap.size by have h4 := g7.size; rw [setCell_size]; omega)
 clear SA SR bw7 g7 o7 o8 r7 d7 zW rw0 O5 HZ HR5 HB0
 go_wp2_with fail
 generalize w7.setCell ⟨w.heap.size + 1, 3, none⟩ (.slice ad7 (n - 1) cap7) = W5 at *
 clear e2 fz
 have HS : Hid (∀ W, Below W5.heap.size W5 W → (convert 22 9 (.slice (some ⟨b, off, none⟩) n cap)).run Tryz.prog W = .ok (.string (str (3 :: ts))) W) := hid (fun W bw => (HB5.out.below bw (Nat.le_refl _)).str cap 22 Tryz.underlying22 Tryz.underlying5 Tryz.underlying9)
 have HK : Hid (∀ W, Below W5.heap.size W5 W → Calls Tryz.prog 78 #[.agg #[.int .i64 3, .int .i64 0, .float .f64 0, .slice ad7 (n - 1) cap7]] W fun e w' => ∃ v, e = .returned v ∧ w'.ownsRow W.heap.size 5 1 v (keyB 3 0 0 (n - 1) ts).length (bys (keyB 3 0 0 (n - 1) ts)) ∧ Below W.heap.size W w') := hid (fun W bw => spec_KeyBytes 3 0 0 cap7 (own_nil O7.out) ((by obtain ⟨_, _, e9, r9, _⟩ := Reads.own O7.out hbt; obtain ⟨rfl, _, rfl⟩ := Value.slice.inj e9; exact r9.below bw (Nat.le_refl _))) (by omega) (by omega) (by omega) (by omega))
 have bdB := (keyB_bd (K := 3) (N := 0) (f := 0) (n := (n - 1)) (zs := ts) rfl hbt (by rw [hl]; omega)).1
 have HQ := hid (str_eq (a := keyB 3 0 0 (n - 1) ts) (b := 3 :: ts) bdB hbd)
 rw [decide_eq_true HE.out] at HQ
 generalize keyB 3 0 0 (n - 1) ts = BL at *
 have SB := hid (fun (w : World) (ad : Option Addr) (cap : Nat) (r : Reads w ad BL.length BL) => r.str cap 22 Tryz.underlying22 Tryz.underlying5 Tryz.underlying9)
 obtain ⟨c0, c1, c2, c3⟩ := row_cells RA.out
 have q := HQ.out
 clear HQ
 generalize str (3 :: ts) = s2 at *
 generalize str BL = s1 at *
 have sb := HS.out W5.drew ((Still.drew W5).below _)
 go_region_with (go_at_call 78; refine (HK.out _ ((Still.drew W5).below _)).mono ?_; rintro e w6 ⟨v, rfl, o, b6⟩; obtain ⟨ad6, cap6, rfl, r6, _⟩ := Reads.own o bdB; have B6 := hid (((Still.drew W5).below W5.heap.size).trans (b6.mono (Nat.le_refl _))); have s6 := SB.out _ _ cap6 r6; have sb6 := HS.out w6 B6.out; clear o b6 r6)
 all_goals
  have R6 := hid ((B6.out.block w.heap.size (Nat.lt_of_succ_lt SZ.out)).trans RR.out)
  have A6 := hid ((B6.out.block (w.heap.size + 1) SZ.out).trans RA.out)
  have D6 := hid (BB.out.trans (B6.out.mono (Nat.le_of_lt (Nat.lt_of_succ_lt SZ.out))))
  clear RR RA BB HS HK c0 c1 c2 c3 s6 sb sb6
  go_wp2_with (first
   | (refine wpList_load_row rfl 29 (.tmp 4) rfl (w.heap.size + 1) rfl 29 _ (0, 0) _ A6.out Tryz.underlying29 rfl size29 ?_)
   | (refine wpList_store_row rfl 29 (.tmp 2) (.tmp 53) rfl w.heap.size #[.int .i64 3, .int .i64 0, .float .f64 0, .slice ad7 (n - 1) cap7] rfl rfl 29 _ R6.out ?s1 ?s2 ?s3 ?_))
  case s1 => exact size29
  case s2 => rfl
  case s3 => simp [Value.oneCell']
  exact bodyPost_ret (results_cell_tmp Tryz.results99 _ _ w.heap.size 29 #[.int .i64 3, .int .i64 0, .float .f64 0, .slice ad7 (n - 1) cap7] (0, 0) _ rfl (setRow_heap _ _ _ _ _ _ R6.out) Tryz.underlying29 rfl size29) rfl ⟨_, rfl, owns_base (owns_at (owns_below B6.out (Nat.le_refl _) O7.out) fun k hk => by rw [setRow_other _ _ _ _ (by omega)]) (by omega), below_setRow D6.out (Nat.le_refl _) _⟩
set_option maxRecDepth 100000 in
set_option maxHeartbeats 3200000 in
theorem spec_KeyRead_on {b off n : Nat} (cap : Nat) (hcap : n ≤ cap) (hc2 : 2 ≤ cap) {ts : List Int} {w : World} (k : Int) (hk : 0 ≤ k ∧ k ≤ 255) (k1 : k ≠ 1) (k2 : k ≠ 2) (k3 : k ≠ 3) (h1 : 1 ≤ n) (hm : n ≤ 41) (h : Reads w (some ⟨b, off, none⟩) n (k :: ts)) (E : keyB k 0 0 0 [] ≠ k :: ts) :
 Calls Tryz.prog 99 #[.slice (some ⟨b, off, none⟩) n cap] w fun e w' => e = .returned (.tuple #[.agg #[.int .i64 0, .int .i64 0, .float .f64 0, .slice none 0 0], .bool false]) ∧ Below w.heap.size w w' := by
 have hl : ts.length = (n - 1) := by have := h.len; rw [List.length_cons] at this; omega
 have hbd := h.bd
 have hbt : ∀ i, 0 ≤ ts.getD i 0 ∧ ts.getD i 0 ≤ 255 := fun i => hbd (i + 1)
 have c0 : w.cell? ⟨b, off, none⟩ = some (.int .u8 k) := by
  rcases h.cells with h0 | ⟨b', off', e, hcc⟩
  · omega
  · cases e; exact hcc 0 (by omega)
 have rd : Reads w (some ⟨b, off + 1, none⟩) (n - 1) ts := by
  have := h.rest hcap
  rwa [show tl b off cap = (some ⟨b, off + 1, none⟩) by rw [tl, if_neg (by omega)]] at this
 have d0 := cell_oldx (.cells #[.int .i64 k, .int .i64 0, .float .f64 0, .slice none 0 0] 29) (cell_oldx (w := w) (.cells #[.int .i64 0, .int .i64 0, .float .f64 0, .slice none 0 0] 29) c0)
 have d00 := cell_oldx (.cells #[.int .i64 0, .int .i64 0, .float .f64 0, .slice none 0 0] 29) (cell_oldx (w := w) (.cells #[.int .i64 0, .int .i64 0, .float .f64 0, .slice none 0 0] 29) c0)
 have hst0 := fun w a m => run_store Tryz.prog w a (.float .f64 0) m rfl
 have i1 : (1 : Int) ≤ (n : Int) := by omega
 have i2 : (n : Int) ≤ 41 := by omega
 have i4 : (0 : Int) < (n : Int) := by omega
 have i6 : ¬ (n : Int) < 1 := by omega
 have i7 : ¬ (41 : Int) < (n : Int) := by omega
 have i8 : 0 < n := by omega
 have i10 : ¬ n = 0 := by omega
 have i12 : ¬ cap = 1 := by omega
 have j1 : (n : Int) ≤ (cap : Int) := by omega
 have j3 : ¬ cap = 0 := by omega
 have q1 : (k == 1) = false := by simp [k1]
 have q2 : (k == 2) = false := by simp [k2]
 have q3 : (k == 3) = false := by simp [k3]
 have hw : IntKind.i64.wrap k = k := by rw [IntKind.wrap_i64]; omega
 have BW0 := hid (two w (.cells #[.int .i64 0, .int .i64 0, .float .f64 0, .slice none 0 0] 29) (.cells #[.int .i64 k, .int .i64 0, .float .f64 0, .slice none 0 0] 29))
 have RW0 := hid (two_rows w (.cells #[.int .i64 0, .int .i64 0, .float .f64 0, .slice none 0 0] 29) (.cells #[.int .i64 k, .int .i64 0, .float .f64 0, .slice none 0 0] 29))
 have HE := hid E
 have H := hid h
 have HRD := hid (rd.below BW0.out (Nat.le_refl _))
 clear c0 rd h E h1 k1 k2 k3 hk
 go_enter Tryz.func99, Tryz.ntmps99
 go_wp2_with fail
 have RR := hid RW0.out.1
 have RA := hid RW0.out.2.1
 have SZ := hid (show w.heap.size + 1 < ((w.alloc (.cells #[.int .i64 0, .int .i64 0, .float .f64 0, .slice none 0 0] 29)).alloc (.cells #[.int .i64 k, .int .i64 0, .float .f64 0, .slice none 0 0] 29)).heap.size by have := RW0.out.2.2; omega)
 have BB := BW0
 have HB5 := hid (H.out.below BW0.out (Nat.le_refl _))
 generalize ((w.alloc (.cells #[.int .i64 0, .int .i64 0, .float .f64 0, .slice none 0 0] 29)).alloc (.cells #[.int .i64 k, .int .i64 0, .float .f64 0, .slice none 0 0] 29)) = W5 at *
 have HS : Hid (∀ W, Below W5.heap.size W5 W → (convert 22 9 (.slice (some ⟨b, off, none⟩) n cap)).run Tryz.prog W = .ok (.string (str (k :: ts))) W) := hid (fun W bw => (HB5.out.below bw (Nat.le_refl _)).str cap 22 Tryz.underlying22 Tryz.underlying5 Tryz.underlying9)
 have HK : Hid (∀ W, Below W5.heap.size W5 W → Calls Tryz.prog 78 #[.agg #[.int .i64 k, .int .i64 0, .float .f64 0, .slice none 0 0]] W fun e w' => ∃ v, e = .returned v ∧ w'.ownsRow W.heap.size 5 1 v (keyB k 0 0 0 []).length (bys (keyB k 0 0 0 [])) ∧ Below W.heap.size W w') := hid (fun W bw => spec_KeyBytes k 0 0 0 (fun _ => rfl) ⟨rfl, .inl rfl, fun i => by simp⟩ (by omega) (by omega) (by omega) (by omega))
 have bdB := (keyB_bd (K := k) (N := 0) (f := 0) (n := 0) (zs := []) rfl (fun i => by simp) (by simp)).1
 have HQ := hid (str_eq (a := keyB k 0 0 0 []) (b := k :: ts) bdB hbd)
 rw [decide_eq_false HE.out] at HQ
 generalize keyB k 0 0 0 [] = BL at *
 have SB := hid (fun (w : World) (ad : Option Addr) (cap : Nat) (r : Reads w ad BL.length BL) => r.str cap 22 Tryz.underlying22 Tryz.underlying5 Tryz.underlying9)
 obtain ⟨c0, c1, c2, c3⟩ := row_cells RA.out
 have q := HQ.out
 clear HQ
 generalize str (k :: ts) = s2 at *
 generalize str BL = s1 at *
 have sb := HS.out W5.drew ((Still.drew W5).below _)
 go_region_with (go_at_call 78; refine (HK.out _ ((Still.drew W5).below _)).mono ?_; rintro e w6 ⟨v, rfl, o, b6⟩; obtain ⟨ad6, cap6, rfl, r6, _⟩ := Reads.own o bdB; have B6 := hid (((Still.drew W5).below W5.heap.size).trans (b6.mono (Nat.le_refl _))); have s6 := SB.out _ _ cap6 r6; have sb6 := HS.out w6 B6.out; clear o b6 r6)
 all_goals
  have R6 := hid ((B6.out.block w.heap.size (Nat.lt_of_succ_lt SZ.out)).trans RR.out)
  have A6 := hid ((B6.out.block (w.heap.size + 1) SZ.out).trans RA.out)
  have D6 := hid (BB.out.trans (B6.out.mono (Nat.le_of_lt (Nat.lt_of_succ_lt SZ.out))))
  clear RR RA BB HS HK c0 c1 c2 c3 s6 sb sb6
  go_wp2_with (first
   | (refine wpList_store_row rfl 29 (.tmp 2) (.tmp 52) rfl w.heap.size #[.int .i64 0, .int .i64 0, .float .f64 0, .slice none 0 0] rfl rfl 29 _ R6.out ?s1 ?s2 ?s3 ?_))
  case s1 => exact size29
  case s2 => rfl
  case s3 => simp [Value.oneCell']
  exact bodyPost_ret (results_cell_tmp Tryz.results99 _ _ w.heap.size 29 #[.int .i64 0, .int .i64 0, .float .f64 0, .slice none 0 0] (0, 0) _ rfl (setRow_heap _ _ _ _ _ _ R6.out) Tryz.underlying29 rfl size29) rfl ⟨rfl, below_setRow D6.out (Nat.le_refl _) _⟩
end Go.Proofs.YtkfhfjghfadofaaGreat
/- KeyRead and ValueRead of the specification. -/



namespace Go.Proofs.YtkfhfjghfadofaaGreat
open Go.RowKit
set_option maxRecDepth 100000 in
set_option maxHeartbeats 1600000 in
theorem spec_KeyRead_out (ad : Option Addr) (n cap : Nat) (h : n < 1 ∨ 41 < n) (hn : n ≤ 2097152) (w : World) :
 Calls Tryz.prog 99 #[.slice ad n cap] w fun e w' => e = .returned (.tuple #[.agg #[.int .i64 0, .int .i64 0, .float .f64 0, .slice none 0 0], .bool false]) ∧ Below w.heap.size w w' := by
 have hst := fun w a m => run_store Tryz.prog w a (.float .f64 0) m rfl
 have HB := hid (two w (.cells #[.int .i64 0, .int .i64 0, .float .f64 0, .slice none 0 0] 29) (.cells #[.int .i64 0, .int .i64 0, .float .f64 0, .slice none 0 0] 29))
 have HR := hid (two_rows w (.cells #[.int .i64 0, .int .i64 0, .float .f64 0, .slice none 0 0] 29) (.cells #[.int .i64 0, .int .i64 0, .float .f64 0, .slice none 0 0] 29))
 rcases h with h | h
 · obtain rfl : n = 0 := by omega
   go_enter Tryz.func99, Tryz.ntmps99
   go_wp2_with fail
   exact bodyPost_ret (results_cell_tmp Tryz.results99 _ _ w.heap.size 29 #[.int .i64 0, .int .i64 0, .float .f64 0, .slice none 0 0] (0, 0) _ rfl HR.out.1 Tryz.underlying29 rfl size29) rfl ⟨rfl, HB.out⟩
 · have i1 : ¬ (n : Int) < 1 := by omega
   have i2 : (41 : Int) < (n : Int) := by omega
   go_enter Tryz.func99, Tryz.ntmps99
   go_wp2_with fail
   exact bodyPost_ret (results_cell_tmp Tryz.results99 _ _ w.heap.size 29 #[.int .i64 0, .int .i64 0, .float .f64 0, .slice none 0 0] (0, 0) _ rfl HR.out.1 Tryz.underlying29 rfl size29) rfl ⟨rfl, HB.out⟩
theorem spec_KeyRead {ad : Option Addr} {n : Nat} (cap : Nat) (hcap : n ≤ cap) {zs : List Int} {w : World} (h : Reads w ad n zs) (hn : n ≤ 1048576) {RK RN : Int} {RF : Nat} {RZ : List Int} {ok : Bool} (hR : readR unfK zs = (RK, RN, RF, RZ, ok)) :
 Calls Tryz.prog 99 #[.slice ad n cap] w fun e w' => ∃ (f' : Nat) (v : Value), e = .returned (.tuple #[.agg #[.int .i64 RK, .int .i64 RN, .float .f64 f', v], .bool ok]) ∧ f' < 18446744073709551616 ∧ Hid (Same RF f') ∧ w'.ownsRow w.heap.size 5 1 v RZ.length (bys RZ) ∧ Below w.heap.size w w' := by
 have hl := h.len
 have hbdz := h.bd
 have no : ∀ e w', (e = Ending.returned (.tuple #[.agg #[.int .i64 0, .int .i64 0, .float .f64 0, .slice none 0 0], .bool false]) ∧ Below w.heap.size w w') → (0, 0, 0, [], false) = (RK, RN, RF, RZ, ok) → ∃ (f' : Nat) (v : Value), e = .returned (.tuple #[.agg #[.int .i64 RK, .int .i64 RN, .float .f64 f', v], .bool ok]) ∧ f' < 18446744073709551616 ∧ Hid (Same RF f') ∧ w'.ownsRow w.heap.size 5 1 v RZ.length (bys RZ) ∧ Below w.heap.size w w' := by
  rintro e w' ⟨rfl, b⟩ hR
  simp only [Prod.mk.injEq] at hR
  obtain ⟨rfl, rfl, rfl, rfl, rfl⟩ := hR
  exact ⟨_, _, rfl, by omega, hid (Same.refl _), World.ownsRow_nil _ _ _ _, b⟩
 cases zs with
 | nil =>
  obtain rfl : n = 0 := by simpa using hl.symm
  exact (spec_KeyRead_out ad 0 cap (.inl (by omega)) (by omega) w).mono fun e w' hh => no e w' hh hR
 | cons k ts =>
  have hl' : ts.length + 1 = n := by simpa using hl
  have hk : 0 ≤ k ∧ k ≤ 255 := hbdz 0
  have hbt : ∀ i, 0 ≤ ts.getD i 0 ∧ ts.getD i 0 ≤ 255 := fun i => hbdz (i + 1)
  simp only [readR] at hR
  by_cases hbig : 41 < n
  · have hz : (0, 0, 0, [], false) = (RK, RN, RF, RZ, ok) := by
     by_cases k3 : k = 3
     · rw [if_pos k3, if_neg (by omega)] at hR; exact hR
     · rw [if_neg k3, if_neg (by omega)] at hR; exact hR
    exact (spec_KeyRead_out ad n cap (.inr hbig) (by omega) w).mono fun e w' hh => no e w' hh hz
  obtain ⟨b, off, rfl⟩ := h.pos (by omega)
  have hx : low ts < 18446744073709551616 := low_lt ts 0 (by omega)
  have hxN : (((low ts : Int) - 9223372036854775808) + 9223372036854775808).toNat = low ts := by omega
  by_cases k3 : k = 3
  · subst k3
    rw [if_pos rfl, if_pos (by omega)] at hR
    simp only [Prod.mk.injEq] at hR
    obtain ⟨rfl, rfl, rfl, rfl, rfl⟩ := hR
    by_cases h1 : cap = 1
    · subst h1
      obtain rfl : n = 1 := by omega
      obtain rfl : ts = [] := List.eq_nil_of_length_eq_zero (by omega)
      refine (spec_KeyRead_3y1 h (keyB_text 0 [] (by omega))).mono ?_
      rintro e w' ⟨v, rfl, o, bb⟩
      exact ⟨_, _, rfl, by omega, hid (Same.refl _), o, bb⟩
    · refine (spec_KeyRead_3y cap hcap (by omega) (by omega) (by omega) h (keyB_text (n - 1) ts (by omega))).mono ?_
      rintro e w' ⟨v, rfl, o, bb⟩
      exact ⟨_, _, rfl, by omega, hid (Same.refl _), by rw [show ts.length = n - 1 by omega]; exact o, bb⟩
  rw [if_neg k3] at hR
  by_cases k1 : k = 1
  · subst k1
    by_cases h8 : ts.length = 8
    · rw [if_pos h8, if_pos rfl] at hR
      simp only [Prod.mk.injEq] at hR
      obtain ⟨rfl, rfl, rfl, rfl, rfl⟩ := hR
      refine (spec_KeyRead_1y cap hcap (by omega) (by omega) (by omega) h (by rw [keyB_int, hxN, hi8_low h8 hbt])).mono ?_
      rintro e w' ⟨v, rfl, o, bb⟩
      exact ⟨_, _, rfl, by omega, hid (Same.refl _), o, bb⟩
    · rw [if_neg h8] at hR
      have hne : keyB 1 ((low ts : Int) - 9223372036854775808) 0 0 [] ≠ 1 :: ts := by
       rw [keyB_int]; intro e; exact hi8_ne h8 (cons_len e)
      by_cases h1 : cap = 1
      · subst h1
        obtain rfl : n = 1 := by omega
        exact (spec_KeyRead_1n1 h hne).mono fun e w' hh => no e w' hh hR
      · exact (spec_KeyRead_1n cap hcap (by omega) (by omega) (by omega) h hne).mono fun e w' hh => no e w' hh hR
  by_cases k2 : k = 2
  · subst k2
    by_cases h8 : ts.length = 8
    · rw [if_pos h8, if_neg (by decide), if_pos rfl] at hR
      have h1 : n ≠ 1 := by omega
      by_cases hok : frank (back (low ts)) = low ts
      · rw [show unfK (low ts) = some (back (low ts)) by rw [unfK, if_pos hok]] at hR
        simp only [Prod.mk.injEq] at hR
        obtain ⟨rfl, rfl, rfl, rfl, rfl⟩ := hR
        refine (spec_KeyRead_2y cap hcap (by omega) (by omega) (by omega) (fun y => ∃ okk, Unrank (low ts) y okk) (fun W => (spec_FloatUnrank (low ts) hx W).mono fun e w' ⟨y, okk, h1, h2, h3, h4⟩ => ⟨y, okk, h1, h2, hid ⟨okk, h3.out⟩, h4⟩) h (fun y hy ⟨okk, hu⟩ => ?_)).mono ?_
        · have hr := (unrank_rank hu).2
          rw [show unfK (low ts) = some (back (low ts)) by rw [unfK, if_pos hok]] at hr
          have ho : okk = true := by cases okk with
           | true => rfl
           | false => cases hr
          rw [keyB_float y (unrank_ne hx hu), (unrank_rank hu).1.2 ho, hi8_low h8 hbt]
        · rintro e w' ⟨y, v, rfl, hy, HP, o, bb⟩
          obtain ⟨okk, hu⟩ := HP.out
          refine ⟨_, _, rfl, hy, hid ?_, o, bb⟩
          rcases hu with ⟨_, _, h5⟩ | ⟨h5, _, _⟩
          · exact h5
          · exact absurd hok h5
      · rw [show unfK (low ts) = none by rw [unfK, if_neg hok]] at hR
        refine (spec_KeyRead_2n cap hcap (by omega) (by omega) (by omega) (fun y => ∃ okk, Unrank (low ts) y okk) (fun W => (spec_FloatUnrank (low ts) hx W).mono fun e w' ⟨y, okk, h1, h2, h3, h4⟩ => ⟨y, okk, h1, h2, hid ⟨okk, h3.out⟩, h4⟩) h (fun y hy ⟨okk, hu⟩ => ?_)).mono fun e w' hh => no e w' hh hR
        rw [keyB_float y (unrank_ne hx hu)]
        intro e
        have h6 := cons_len e
        have h7 : low (hi8 (frank y) 8) = frank y := low_hi8 _ (frank_lt y hy)
        rw [h6] at h7
        have ho := (unrank_rank hu).1.1 h7.symm
        have hr := (unrank_rank hu).2
        rw [ho, show unfK (low ts) = none by rw [unfK, if_neg hok]] at hr
        cases hr
    · rw [if_neg h8] at hR
      have hE : ∀ y : Nat, y < 18446744073709551616 → (∃ okk, Unrank (low ts) y okk) → keyB 2 0 y 0 [] ≠ 2 :: ts := by
       rintro y hy ⟨okk, hu⟩
       rw [keyB_float y (unrank_ne hx hu)]; intro e; exact hi8_ne h8 (cons_len e)
      by_cases h1 : cap = 1
      · subst h1
        obtain rfl : n = 1 := by omega
        exact (spec_KeyRead_2n1 (fun y => ∃ okk, Unrank (low ts) y okk) (fun W => (spec_FloatUnrank (low ts) hx W).mono fun e w' ⟨y, okk, h1, h2, h3, h4⟩ => ⟨y, okk, h1, h2, hid ⟨okk, h3.out⟩, h4⟩) h hE).mono fun e w' hh => no e w' hh hR
      · exact (spec_KeyRead_2n cap hcap (by omega) (by omega) (by omega) (fun y => ∃ okk, Unrank (low ts) y okk) (fun W => (spec_FloatUnrank (low ts) hx W).mono fun e w' ⟨y, okk, h1, h2, h3, h4⟩ => ⟨y, okk, h1, h2, hid ⟨okk, h3.out⟩, h4⟩) h hE).mono fun e w' hh => no e w' hh hR
  have hz : (0, 0, 0, [], false) = (RK, RN, RF, RZ, ok) := by
   by_cases h8 : ts.length = 8
   · rw [if_pos h8, if_neg k1, if_neg k2] at hR; exact hR
   · rw [if_neg h8] at hR; exact hR
  have hne : keyB k 0 0 0 [] ≠ k :: ts := by rw [keyB_other k k1 k2 k3]; intro e; cases e
  by_cases h1 : cap = 1
  · subst h1
    obtain rfl : n = 1 := by omega
    exact (spec_KeyRead_on1 k hk k1 k2 k3 h hne).mono fun e w' hh => no e w' hh hz
  · exact (spec_KeyRead_on cap hcap (by omega) k hk k1 k2 k3 (by omega) (by omega) h hne).mono fun e w' hh => no e w' hh hz
end Go.Proofs.YtkfhfjghfadofaaGreat
/- The specification's ValueRead, by kinds. -/



namespace Go.Proofs.YtkfhfjghfadofaaGreat
open Go.RowKit
set_option maxRecDepth 100000 in
set_option maxHeartbeats 3200000 in
theorem spec_ValueRead_1n1 {b off : Nat} {ts : List Int} {w : World} (h : Reads w (some ⟨b, off, none⟩) 1 (1 :: ts)) (E : valB 1 ((low ts : Int) - 9223372036854775808) 0 0 [] ≠ 1 :: ts) :
 Calls Tryz.prog 100 #[.slice (some ⟨b, off, none⟩) 1 1] w fun e w' => e = .returned (.tuple #[.agg #[.int .i64 0, .int .i64 0, .float .f64 0, .slice none 0 0], .bool false]) ∧ Below w.heap.size w w' := by
 have hl : ts.length = 0 := by have := h.len; rw [List.length_cons] at this; omega
 have hbd := h.bd
 have hbt : ∀ i, 0 ≤ ts.getD i 0 ∧ ts.getD i 0 ≤ 255 := fun i => hbd (i + 1)
 have c0 : w.cell? ⟨b, off, none⟩ = some (.int .u8 1) := by
  rcases h.cells with h0 | ⟨b', off', e, hcc⟩
  · omega
  · cases e; exact hcc 0 (by omega)
 have rd : Reads w (some ⟨b, off, none⟩) 0 ts := by
  have := h.rest (Nat.le_refl _)
  rwa [show tl b off 1 = (some ⟨b, off, none⟩) by rfl] at this
 have d0 := cell_oldx (.cells #[.int .i64 1, .int .i64 0, .float .f64 0, .slice none 0 0] 29) (cell_oldx (w := w) (.cells #[.int .i64 0, .int .i64 0, .float .f64 0, .slice none 0 0] 29) c0)
 have d00 := cell_oldx (.cells #[.int .i64 0, .int .i64 0, .float .f64 0, .slice none 0 0] 29) (cell_oldx (w := w) (.cells #[.int .i64 0, .int .i64 0, .float .f64 0, .slice none 0 0] 29) c0)
 have hst0 := fun w a m => run_store Tryz.prog w a (.float .f64 0) m rfl
 have BW0 := hid (two w (.cells #[.int .i64 0, .int .i64 0, .float .f64 0, .slice none 0 0] 29) (.cells #[.int .i64 1, .int .i64 0, .float .f64 0, .slice none 0 0] 29))
 have RW0 := hid (two_rows w (.cells #[.int .i64 0, .int .i64 0, .float .f64 0, .slice none 0 0] 29) (.cells #[.int .i64 1, .int .i64 0, .float .f64 0, .slice none 0 0] 29))
 have HE := hid E
 have H := hid h
 have HRD := hid (rd.below BW0.out (Nat.le_refl _))
 have hx : low ts < 18446744073709551616 := low_lt ts 0 (by omega)
 have hX := xor_low (low ts) hx
 have BW1 := hid (two w (.cells #[.int .i64 0, .int .i64 0, .float .f64 0, .slice none 0 0] 29) (.cells #[.int .i64 1, .int .i64 ((low ts : Int) - 9223372036854775808), .float .f64 0, .slice none 0 0] 29))
 have RW1 := hid (two_rows w (.cells #[.int .i64 0, .int .i64 0, .float .f64 0, .slice none 0 0] 29) (.cells #[.int .i64 1, .int .i64 ((low ts : Int) - 9223372036854775808), .float .f64 0, .slice none 0 0] 29))
 clear c0 rd h E
 go_enter Tryz.func100, Tryz.ntmps100
 go_wp2_with fail
 refine (spec_l3low 0 HRD.out (by omega)).mono ?_
 rintro e w1 ⟨rfl, hw1⟩
 subst w1
 go_wp2_with fail
 have RR := hid RW1.out.1
 have RA := hid RW1.out.2.1
 have SZ := hid (show w.heap.size + 1 < ((w.alloc (.cells #[.int .i64 0, .int .i64 0, .float .f64 0, .slice none 0 0] 29)).alloc (.cells #[.int .i64 1, .int .i64 ((low ts : Int) - 9223372036854775808), .float .f64 0, .slice none 0 0] 29)).heap.size by have := RW1.out.2.2; omega)
 have BB := BW1
 have HB5 := hid (H.out.below BW1.out (Nat.le_refl _))
 generalize ((w.alloc (.cells #[.int .i64 0, .int .i64 0, .float .f64 0, .slice none 0 0] 29)).alloc (.cells #[.int .i64 1, .int .i64 ((low ts : Int) - 9223372036854775808), .float .f64 0, .slice none 0 0] 29)) = W5 at *
 have HS : Hid (∀ W, Below W5.heap.size W5 W → (convert 22 9 (.slice (some ⟨b, off, none⟩) 1 1)).run Tryz.prog W = .ok (.string (str (1 :: ts))) W) := hid (fun W bw => (HB5.out.below bw (Nat.le_refl _)).str 1 22 Tryz.underlying22 Tryz.underlying5 Tryz.underlying9)
 have HK : Hid (∀ W, Below W5.heap.size W5 W → Calls Tryz.prog 79 #[.agg #[.int .i64 1, .int .i64 ((low ts : Int) - 9223372036854775808), .float .f64 0, .slice none 0 0]] W fun e w' => ∃ v, e = .returned v ∧ w'.ownsRow W.heap.size 5 1 v (valB 1 ((low ts : Int) - 9223372036854775808) 0 0 []).length (bys (valB 1 ((low ts : Int) - 9223372036854775808) 0 0 [])) ∧ Below W.heap.size W w') := hid (fun W bw => spec_ValueBytes 1 ((low ts : Int) - 9223372036854775808) 0 0 (fun _ => rfl) ⟨rfl, .inl rfl, fun i => by simp⟩ (by omega) (by omega) (by omega) (by omega))
 have bdB := (valB_bd (K := 1) (N := ((low ts : Int) - 9223372036854775808)) (f := 0) (n := 0) (zs := []) rfl (fun i => by simp) (by simp)).1
 have HQ := hid (str_eq (a := valB 1 ((low ts : Int) - 9223372036854775808) 0 0 []) (b := 1 :: ts) bdB hbd)
 rw [decide_eq_false HE.out] at HQ
 generalize valB 1 ((low ts : Int) - 9223372036854775808) 0 0 [] = BL at *
 have SB := hid (fun (w : World) (ad : Option Addr) (cap : Nat) (r : Reads w ad BL.length BL) => r.str cap 22 Tryz.underlying22 Tryz.underlying5 Tryz.underlying9)
 obtain ⟨c0, c1, c2, c3⟩ := row_cells RA.out
 have q := HQ.out
 clear HQ
 generalize str (1 :: ts) = s2 at *
 generalize str BL = s1 at *
 have sb := HS.out W5.drew ((Still.drew W5).below _)
 go_region_with (go_at_call 79; refine (HK.out _ ((Still.drew W5).below _)).mono ?_; rintro e w6 ⟨v, rfl, o, b6⟩; obtain ⟨ad6, cap6, rfl, r6, _⟩ := Reads.own o bdB; have B6 := hid (((Still.drew W5).below W5.heap.size).trans (b6.mono (Nat.le_refl _))); have s6 := SB.out _ _ cap6 r6; have sb6 := HS.out w6 B6.out; clear o b6 r6)
 all_goals
  have R6 := hid ((B6.out.block w.heap.size (Nat.lt_of_succ_lt SZ.out)).trans RR.out)
  have A6 := hid ((B6.out.block (w.heap.size + 1) SZ.out).trans RA.out)
  have D6 := hid (BB.out.trans (B6.out.mono (Nat.le_of_lt (Nat.lt_of_succ_lt SZ.out))))
  clear RR RA BB HS HK c0 c1 c2 c3 s6 sb sb6
  go_wp2_with (first
   | (refine wpList_store_row rfl 29 (.tmp 2) (.tmp 49) rfl w.heap.size #[.int .i64 0, .int .i64 0, .float .f64 0, .slice none 0 0] rfl rfl 29 _ R6.out ?s1 ?s2 ?s3 ?_))
  case s1 => exact size29
  case s2 => rfl
  case s3 => simp [Value.oneCell']
  exact bodyPost_ret (results_cell_tmp Tryz.results100 _ _ w.heap.size 29 #[.int .i64 0, .int .i64 0, .float .f64 0, .slice none 0 0] (0, 0) _ rfl (setRow_heap _ _ _ _ _ _ R6.out) Tryz.underlying29 rfl size29) rfl ⟨rfl, below_setRow D6.out (Nat.le_refl _) _⟩
set_option maxRecDepth 100000 in
set_option maxHeartbeats 3200000 in
theorem spec_ValueRead_2n1 {b off : Nat} {ts : List Int} {w : World} (P : Nat → Prop) (D : ∀ W : World, Calls Tryz.prog 138 #[.int .u64 (low ts : Int)] W fun e w' => ∃ (y : Nat), e = .returned (.float .f64 y) ∧ y < 18446744073709551616 ∧ Hid (P y) ∧ Still W w') (h : Reads w (some ⟨b, off, none⟩) 1 (2 :: ts)) (E : ∀ y : Nat, y < 18446744073709551616 → P y → valB 2 0 y 0 [] ≠ 2 :: ts) :
 Calls Tryz.prog 100 #[.slice (some ⟨b, off, none⟩) 1 1] w fun e w' => e = .returned (.tuple #[.agg #[.int .i64 0, .int .i64 0, .float .f64 0, .slice none 0 0], .bool false]) ∧ Below w.heap.size w w' := by
 have hl : ts.length = 0 := by have := h.len; rw [List.length_cons] at this; omega
 have hbd := h.bd
 have hbt : ∀ i, 0 ≤ ts.getD i 0 ∧ ts.getD i 0 ≤ 255 := fun i => hbd (i + 1)
 have c0 : w.cell? ⟨b, off, none⟩ = some (.int .u8 2) := by
  rcases h.cells with h0 | ⟨b', off', e, hcc⟩
  · omega
  · cases e; exact hcc 0 (by omega)
 have rd : Reads w (some ⟨b, off, none⟩) 0 ts := by
  have := h.rest (Nat.le_refl _)
  rwa [show tl b off 1 = (some ⟨b, off, none⟩) by rfl] at this
 have d0 := cell_oldx (.cells #[.int .i64 2, .int .i64 0, .float .f64 0, .slice none 0 0] 29) (cell_oldx (w := w) (.cells #[.int .i64 0, .int .i64 0, .float .f64 0, .slice none 0 0] 29) c0)
 have d00 := cell_oldx (.cells #[.int .i64 0, .int .i64 0, .float .f64 0, .slice none 0 0] 29) (cell_oldx (w := w) (.cells #[.int .i64 0, .int .i64 0, .float .f64 0, .slice none 0 0] 29) c0)
 have hst0 := fun w a m => run_store Tryz.prog w a (.float .f64 0) m rfl
 have BW0 := hid (two w (.cells #[.int .i64 0, .int .i64 0, .float .f64 0, .slice none 0 0] 29) (.cells #[.int .i64 2, .int .i64 0, .float .f64 0, .slice none 0 0] 29))
 have RW0 := hid (two_rows w (.cells #[.int .i64 0, .int .i64 0, .float .f64 0, .slice none 0 0] 29) (.cells #[.int .i64 2, .int .i64 0, .float .f64 0, .slice none 0 0] 29))
 have HE := hid E
 have H := hid h
 have HRD := hid (rd.below BW0.out (Nat.le_refl _))
 have hx : low ts < 18446744073709551616 := low_lt ts 0 (by omega)
 have HD := hid D
 clear c0 rd h E D
 go_enter Tryz.func100, Tryz.ntmps100
 go_wp2_with fail
 refine (spec_l3low 0 HRD.out (by omega)).mono ?_
 rintro e w1 ⟨rfl, hw1⟩
 subst w1
 go_wp2_with fail
 refine (HD.out _).mono ?_
 rintro e w2 ⟨y, rfl, hy, HP, s2⟩
 have hsty := fun w a m => run_store Tryz.prog w a (.float .f64 y) m rfl
 replace HE := hid (HE.out y hy HP.out)
 have SA : w2.heap[w.heap.size + 1]? = some (.cells #[.int .i64 2, .int .i64 0, .float .f64 0, .slice none 0 0] 29) := by rw [s2.heap]; exact RW0.out.2.1
 have SR : w2.heap[w.heap.size]? = some (.cells #[.int .i64 0, .int .i64 0, .float .f64 0, .slice none 0 0] 29) := by rw [s2.heap]; exact RW0.out.1
 have e2 : w2.cell? ⟨w.heap.size + 1, 2, none⟩ = some (.float .f64 0) := by rw [cell_of_row _ _ _ _ _ _ SA]; rfl
 have fz : w2.frozen? ⟨w.heap.size + 1, 2, none⟩ = false := frozen_of_row _ _ _ _ _ SA
 have RA := hid (heap_setCell_same w2 (w.heap.size + 1) 2 _ 29 (.float .f64 y) SA)
 have RR := hid ((heap_setCell_other w2 ⟨w.heap.size + 1, 2, none⟩ w.heap.size (.float .f64 y) (by simp)).trans SR)
 have bw2 : Below w.heap.size w w2 := BW0.out.trans (s2.below _)
 have BB := hid (bw2.setCell (p := ⟨w.heap.size + 1, 2, none⟩) (by simp) (.float .f64 y))
 have HB5 := hid (H.out.below BB.out (Nat.le_refl _))
 have SZ := hid (show w.heap.size + 1 < (w2.setCell ⟨w.heap.size + 1, 2, none⟩ (.float .f64 y)).heap.size by have h3 := RW0.out.2.2; have h4 := s2.size; rw [setCell_size]; omega)
 clear SA SR bw2 s2
 go_wp2_with fail
 generalize w2.setCell ⟨w.heap.size + 1, 2, none⟩ (.float .f64 y) = W5 at *
 clear e2 fz
 have HS : Hid (∀ W, Below W5.heap.size W5 W → (convert 22 9 (.slice (some ⟨b, off, none⟩) 1 1)).run Tryz.prog W = .ok (.string (str (2 :: ts))) W) := hid (fun W bw => (HB5.out.below bw (Nat.le_refl _)).str 1 22 Tryz.underlying22 Tryz.underlying5 Tryz.underlying9)
 have HK : Hid (∀ W, Below W5.heap.size W5 W → Calls Tryz.prog 79 #[.agg #[.int .i64 2, .int .i64 0, .float .f64 y, .slice none 0 0]] W fun e w' => ∃ v, e = .returned v ∧ w'.ownsRow W.heap.size 5 1 v (valB 2 0 y 0 []).length (bys (valB 2 0 y 0 [])) ∧ Below W.heap.size W w') := hid (fun W bw => spec_ValueBytes 2 0 y 0 (fun _ => rfl) ⟨rfl, .inl rfl, fun i => by simp⟩ (by omega) (by omega) (by omega) hy)
 have bdB := (valB_bd (K := 2) (N := 0) (f := y) (n := 0) (zs := []) rfl (fun i => by simp) (by simp)).1
 have HQ := hid (str_eq (a := valB 2 0 y 0 []) (b := 2 :: ts) bdB hbd)
 rw [decide_eq_false HE.out] at HQ
 generalize valB 2 0 y 0 [] = BL at *
 have SB := hid (fun (w : World) (ad : Option Addr) (cap : Nat) (r : Reads w ad BL.length BL) => r.str cap 22 Tryz.underlying22 Tryz.underlying5 Tryz.underlying9)
 obtain ⟨c0, c1, c2, c3⟩ := row_cells RA.out
 have q := HQ.out
 clear HQ
 generalize str (2 :: ts) = s2 at *
 generalize str BL = s1 at *
 have sb := HS.out W5.drew ((Still.drew W5).below _)
 go_region_with (go_at_call 79; refine (HK.out _ ((Still.drew W5).below _)).mono ?_; rintro e w6 ⟨v, rfl, o, b6⟩; obtain ⟨ad6, cap6, rfl, r6, _⟩ := Reads.own o bdB; have B6 := hid (((Still.drew W5).below W5.heap.size).trans (b6.mono (Nat.le_refl _))); have s6 := SB.out _ _ cap6 r6; have sb6 := HS.out w6 B6.out; clear o b6 r6)
 all_goals
  have R6 := hid ((B6.out.block w.heap.size (Nat.lt_of_succ_lt SZ.out)).trans RR.out)
  have A6 := hid ((B6.out.block (w.heap.size + 1) SZ.out).trans RA.out)
  have D6 := hid (BB.out.trans (B6.out.mono (Nat.le_of_lt (Nat.lt_of_succ_lt SZ.out))))
  clear RR RA BB HS HK c0 c1 c2 c3 s6 sb sb6
  go_wp2_with (first
   | (refine wpList_store_row rfl 29 (.tmp 2) (.tmp 49) rfl w.heap.size #[.int .i64 0, .int .i64 0, .float .f64 0, .slice none 0 0] rfl rfl 29 _ R6.out ?s1 ?s2 ?s3 ?_))
  case s1 => exact size29
  case s2 => rfl
  case s3 => simp [Value.oneCell']
  exact bodyPost_ret (results_cell_tmp Tryz.results100 _ _ w.heap.size 29 #[.int .i64 0, .int .i64 0, .float .f64 0, .slice none 0 0] (0, 0) _ rfl (setRow_heap _ _ _ _ _ _ R6.out) Tryz.underlying29 rfl size29) rfl ⟨rfl, below_setRow D6.out (Nat.le_refl _) _⟩
set_option maxRecDepth 100000 in
set_option maxHeartbeats 3200000 in
theorem spec_ValueRead_3y1 {b off : Nat} {ts : List Int} {w : World} (h : Reads w (some ⟨b, off, none⟩) 1 (3 :: ts)) (E : valB 3 0 0 0 ts = 3 :: ts) :
 Calls Tryz.prog 100 #[.slice (some ⟨b, off, none⟩) 1 1] w fun e w' => ∃ v, e = .returned (.tuple #[.agg #[.int .i64 3, .int .i64 0, .float .f64 0, v], .bool true]) ∧ w'.ownsRow w.heap.size 5 1 v 0 (bys ts) ∧ Below w.heap.size w w' := by
 have hl : ts.length = 0 := by have := h.len; rw [List.length_cons] at this; omega
 have hbd := h.bd
 have hbt : ∀ i, 0 ≤ ts.getD i 0 ∧ ts.getD i 0 ≤ 255 := fun i => hbd (i + 1)
 have c0 : w.cell? ⟨b, off, none⟩ = some (.int .u8 3) := by
  rcases h.cells with h0 | ⟨b', off', e, hcc⟩
  · omega
  · cases e; exact hcc 0 (by omega)
 have rd : Reads w (some ⟨b, off, none⟩) 0 ts := by
  have := h.rest (Nat.le_refl _)
  rwa [show tl b off 1 = (some ⟨b, off, none⟩) by rfl] at this
 have d0 := cell_oldx (.cells #[.int .i64 3, .int .i64 0, .float .f64 0, .slice none 0 0] 29) (cell_oldx (w := w) (.cells #[.int .i64 0, .int .i64 0, .float .f64 0, .slice none 0 0] 29) c0)
 have d00 := cell_oldx (.cells #[.int .i64 0, .int .i64 0, .float .f64 0, .slice none 0 0] 29) (cell_oldx (w := w) (.cells #[.int .i64 0, .int .i64 0, .float .f64 0, .slice none 0 0] 29) c0)
 have hst0 := fun w a m => run_store Tryz.prog w a (.float .f64 0) m rfl
 have BW0 := hid (two w (.cells #[.int .i64 0, .int .i64 0, .float .f64 0, .slice none 0 0] 29) (.cells #[.int .i64 3, .int .i64 0, .float .f64 0, .slice none 0 0] 29))
 have RW0 := hid (two_rows w (.cells #[.int .i64 0, .int .i64 0, .float .f64 0, .slice none 0 0] 29) (.cells #[.int .i64 3, .int .i64 0, .float .f64 0, .slice none 0 0] 29))
 have HE := hid E
 have H := hid h
 have HRD := hid (rd.below BW0.out (Nat.le_refl _))
 clear c0 rd h E
 go_enter Tryz.func100, Tryz.ntmps100
 obtain ⟨i0, hi, hz0, hz1, hz2⟩ := info_parts Tryz.info5
 have O5 := hid (World.ownsRow_lit (base := w.heap.size + 2) (e := 5) (size := 1) ((w.alloc (.cells #[.int .i64 0, .int .i64 0, .float .f64 0, .slice none 0 0] 29)).alloc (.cells #[.int .i64 3, .int .i64 0, .float .f64 0, .slice none 0 0] 29)) #[] 0 (by have := RW0.out.2.2; omega) (Nat.zero_le _) rfl)
 have HZ := hid (alloc_size ((w.alloc (.cells #[.int .i64 0, .int .i64 0, .float .f64 0, .slice none 0 0] 29)).alloc (.cells #[.int .i64 3, .int .i64 0, .float .f64 0, .slice none 0 0] 29)) (.cells #[] 5))
 have HR5 := hid (HRD.out.alloc (.cells #[] 5))
 have HB0 := hid (BW0.out.alloc BW0.out.size (.cells #[] 5))
 rw [RW0.out.2.2] at O5 HZ
 go_wp2_with (at_builtin; refine wpList_append_own _ rfl _ _ 22 rfl (w.heap.size + 2) 5 i0 (.int .u8 0) 1 1 Tryz.underlying22 hi hz0 hz1 hz2 rfl (by decide) _ _ _ rfl O5.out ⟨b, off, none⟩ 0 0 (bys ts) rfl ?k2 HR5.out.news (bys_one _) ?k4 ?k5 ?k6 ?_)
 case k2 => rw [List.eq_nil_of_length_eq_zero hl]; rfl
 intro v7 w7 o7 g7 _
 have o8 : w7.ownsRow (w.heap.size + 2) 5 1 v7 0 (bys ts) := by simpa [bys] using o7
 obtain ⟨ad7, cap7, rfl, r7, d7⟩ := Reads.own o8 hbt
 have zW := HZ.out
 have rw0 := RW0.out
 have SA : w7.heap[w.heap.size + 1]? = _ := (g7.block _ (by omega) (fun e => by have := (O5.out.lt _ e.symm).1; omega)).trans ((heap_alloc_old _ _ (by omega)).trans rw0.2.1)
 have SR : w7.heap[w.heap.size]? = _ := (g7.block _ (by omega) (fun e => by have := (O5.out.lt _ e.symm).1; omega)).trans ((heap_alloc_old _ _ (by omega)).trans rw0.1)
 have e2 : w7.cell? ⟨w.heap.size + 1, 3, none⟩ = some (.slice none 0 0) := by rw [cell_of_row _ _ _ _ _ _ SA]; rfl
 have fz : w7.frozen? ⟨w.heap.size + 1, 3, none⟩ = false := frozen_of_row _ _ _ _ _ SA
 have RA := hid (heap_setCell_same w7 (w.heap.size + 1) 3 _ 29 (.slice ad7 0 cap7) SA)
 have RR := hid ((heap_setCell_other w7 ⟨w.heap.size + 1, 3, none⟩ w.heap.size (.slice ad7 0 cap7) (by simp)).trans SR)
 have bw7 : Below w.heap.size w w7 := HB0.out.grown g7 (by have := HB0.out.size; omega) (fun k hk => by have := (O5.out.lt k hk).1; omega)
 have BB := hid (bw7.setCell (p := ⟨w.heap.size + 1, 3, none⟩) (by simp) (.slice ad7 0 cap7))
 have HB5 := hid (H.out.below BB.out (Nat.le_refl _))
 have O7 := hid (owns_at (w' := w7.setCell ⟨w.heap.size + 1, 3, none⟩ (.slice ad7 0 cap7)) o8 (fun k hk => heap_setCell_other _ _ _ _ (by simp; omega)))
 have SZ := hid (show w.heap.size + 1 < (w7.setCell ⟨w.heap.size + 1, 3, none⟩ (.slice ad7 0 cap7)).heap.size by have h4 := g7.size; rw [setCell_size]; omega)
 clear SA SR bw7 g7 o7 o8 r7 d7 zW rw0 O5 HZ HR5 HB0
 go_wp2_with fail
 generalize w7.setCell ⟨w.heap.size + 1, 3, none⟩ (.slice ad7 0 cap7) = W5 at *
 clear e2 fz
 have HS : Hid (∀ W, Below W5.heap.size W5 W → (convert 22 9 (.slice (some ⟨b, off, none⟩) 1 1)).run Tryz.prog W = .ok (.string (str (3 :: ts))) W) := hid (fun W bw => (HB5.out.below bw (Nat.le_refl _)).str 1 22 Tryz.underlying22 Tryz.underlying5 Tryz.underlying9)
 have HK : Hid (∀ W, Below W5.heap.size W5 W → Calls Tryz.prog 79 #[.agg #[.int .i64 3, .int .i64 0, .float .f64 0, .slice ad7 0 cap7]] W fun e w' => ∃ v, e = .returned v ∧ w'.ownsRow W.heap.size 5 1 v (valB 3 0 0 0 ts).length (bys (valB 3 0 0 0 ts)) ∧ Below W.heap.size W w') := hid (fun W bw => spec_ValueBytes 3 0 0 cap7 (own_nil O7.out) ((by obtain ⟨_, _, e9, r9, _⟩ := Reads.own O7.out hbt; obtain ⟨rfl, _, rfl⟩ := Value.slice.inj e9; exact r9.below bw (Nat.le_refl _))) (by omega) (by omega) (by omega) (by omega))
 have bdB := (valB_bd (K := 3) (N := 0) (f := 0) (n := 0) (zs := ts) rfl hbt (by rw [hl]; omega)).1
 have HQ := hid (str_eq (a := valB 3 0 0 0 ts) (b := 3 :: ts) bdB hbd)
 rw [decide_eq_true HE.out] at HQ
 generalize valB 3 0 0 0 ts = BL at *
 have SB := hid (fun (w : World) (ad : Option Addr) (cap : Nat) (r : Reads w ad BL.length BL) => r.str cap 22 Tryz.underlying22 Tryz.underlying5 Tryz.underlying9)
 obtain ⟨c0, c1, c2, c3⟩ := row_cells RA.out
 have q := HQ.out
 clear HQ
 generalize str (3 :: ts) = s2 at *
 generalize str BL = s1 at *
 have sb := HS.out W5.drew ((Still.drew W5).below _)
 go_region_with (go_at_call 79; refine (HK.out _ ((Still.drew W5).below _)).mono ?_; rintro e w6 ⟨v, rfl, o, b6⟩; obtain ⟨ad6, cap6, rfl, r6, _⟩ := Reads.own o bdB; have B6 := hid (((Still.drew W5).below W5.heap.size).trans (b6.mono (Nat.le_refl _))); have s6 := SB.out _ _ cap6 r6; have sb6 := HS.out w6 B6.out; clear o b6 r6)
 all_goals
  have R6 := hid ((B6.out.block w.heap.size (Nat.lt_of_succ_lt SZ.out)).trans RR.out)
  have A6 := hid ((B6.out.block (w.heap.size + 1) SZ.out).trans RA.out)
  have D6 := hid (BB.out.trans (B6.out.mono (Nat.le_of_lt (Nat.lt_of_succ_lt SZ.out))))
  clear RR RA BB HS HK c0 c1 c2 c3 s6 sb sb6
  go_wp2_with (first
   | (refine wpList_load_row rfl 29 (.tmp 4) rfl (w.heap.size + 1) rfl 29 _ (0, 0) _ A6.out Tryz.underlying29 rfl size29 ?_)
   | (refine wpList_store_row rfl 29 (.tmp 2) (.tmp 50) rfl w.heap.size #[.int .i64 3, .int .i64 0, .float .f64 0, .slice ad7 0 cap7] rfl rfl 29 _ R6.out ?s1 ?s2 ?s3 ?_))
  case s1 => exact size29
  case s2 => rfl
  case s3 => simp [Value.oneCell']
  exact bodyPost_ret (results_cell_tmp Tryz.results100 _ _ w.heap.size 29 #[.int .i64 3, .int .i64 0, .float .f64 0, .slice ad7 0 cap7] (0, 0) _ rfl (setRow_heap _ _ _ _ _ _ R6.out) Tryz.underlying29 rfl size29) rfl ⟨_, rfl, owns_base (owns_at (owns_below B6.out (Nat.le_refl _) O7.out) fun k hk => by rw [setRow_other _ _ _ _ (by omega)]) (by omega), below_setRow D6.out (Nat.le_refl _) _⟩
set_option maxRecDepth 100000 in
set_option maxHeartbeats 3200000 in
theorem spec_ValueRead_on1 {b off : Nat} {ts : List Int} {w : World} (k : Int) (hk : 0 ≤ k ∧ k ≤ 255) (k1 : k ≠ 1) (k2 : k ≠ 2) (k3 : k ≠ 3) (h : Reads w (some ⟨b, off, none⟩) 1 (k :: ts)) (E : valB k 0 0 0 [] ≠ k :: ts) :
 Calls Tryz.prog 100 #[.slice (some ⟨b, off, none⟩) 1 1] w fun e w' => e = .returned (.tuple #[.agg #[.int .i64 0, .int .i64 0, .float .f64 0, .slice none 0 0], .bool false]) ∧ Below w.heap.size w w' := by
 have hl : ts.length = 0 := by have := h.len; rw [List.length_cons] at this; omega
 have hbd := h.bd
 have hbt : ∀ i, 0 ≤ ts.getD i 0 ∧ ts.getD i 0 ≤ 255 := fun i => hbd (i + 1)
 have c0 : w.cell? ⟨b, off, none⟩ = some (.int .u8 k) := by
  rcases h.cells with h0 | ⟨b', off', e, hcc⟩
  · omega
  · cases e; exact hcc 0 (by omega)
 have rd : Reads w (some ⟨b, off, none⟩) 0 ts := by
  have := h.rest (Nat.le_refl _)
  rwa [show tl b off 1 = (some ⟨b, off, none⟩) by rfl] at this
 have d0 := cell_oldx (.cells #[.int .i64 k, .int .i64 0, .float .f64 0, .slice none 0 0] 29) (cell_oldx (w := w) (.cells #[.int .i64 0, .int .i64 0, .float .f64 0, .slice none 0 0] 29) c0)
 have d00 := cell_oldx (.cells #[.int .i64 0, .int .i64 0, .float .f64 0, .slice none 0 0] 29) (cell_oldx (w := w) (.cells #[.int .i64 0, .int .i64 0, .float .f64 0, .slice none 0 0] 29) c0)
 have hst0 := fun w a m => run_store Tryz.prog w a (.float .f64 0) m rfl
 have q1 : (k == 1) = false := by simp [k1]
 have q2 : (k == 2) = false := by simp [k2]
 have q3 : (k == 3) = false := by simp [k3]
 have hw : IntKind.i64.wrap k = k := by rw [IntKind.wrap_i64]; omega
 have BW0 := hid (two w (.cells #[.int .i64 0, .int .i64 0, .float .f64 0, .slice none 0 0] 29) (.cells #[.int .i64 k, .int .i64 0, .float .f64 0, .slice none 0 0] 29))
 have RW0 := hid (two_rows w (.cells #[.int .i64 0, .int .i64 0, .float .f64 0, .slice none 0 0] 29) (.cells #[.int .i64 k, .int .i64 0, .float .f64 0, .slice none 0 0] 29))
 have HE := hid E
 have H := hid h
 have HRD := hid (rd.below BW0.out (Nat.le_refl _))
 clear c0 rd h E k1 k2 k3 hk
 go_enter Tryz.func100, Tryz.ntmps100
 go_wp2_with fail
 have RR := hid RW0.out.1
 have RA := hid RW0.out.2.1
 have SZ := hid (show w.heap.size + 1 < ((w.alloc (.cells #[.int .i64 0, .int .i64 0, .float .f64 0, .slice none 0 0] 29)).alloc (.cells #[.int .i64 k, .int .i64 0, .float .f64 0, .slice none 0 0] 29)).heap.size by have := RW0.out.2.2; omega)
 have BB := BW0
 have HB5 := hid (H.out.below BW0.out (Nat.le_refl _))
 generalize ((w.alloc (.cells #[.int .i64 0, .int .i64 0, .float .f64 0, .slice none 0 0] 29)).alloc (.cells #[.int .i64 k, .int .i64 0, .float .f64 0, .slice none 0 0] 29)) = W5 at *
 have HS : Hid (∀ W, Below W5.heap.size W5 W → (convert 22 9 (.slice (some ⟨b, off, none⟩) 1 1)).run Tryz.prog W = .ok (.string (str (k :: ts))) W) := hid (fun W bw => (HB5.out.below bw (Nat.le_refl _)).str 1 22 Tryz.underlying22 Tryz.underlying5 Tryz.underlying9)
 have HK : Hid (∀ W, Below W5.heap.size W5 W → Calls Tryz.prog 79 #[.agg #[.int .i64 k, .int .i64 0, .float .f64 0, .slice none 0 0]] W fun e w' => ∃ v, e = .returned v ∧ w'.ownsRow W.heap.size 5 1 v (valB k 0 0 0 []).length (bys (valB k 0 0 0 [])) ∧ Below W.heap.size W w') := hid (fun W bw => spec_ValueBytes k 0 0 0 (fun _ => rfl) ⟨rfl, .inl rfl, fun i => by simp⟩ (by omega) (by omega) (by omega) (by omega))
 have bdB := (valB_bd (K := k) (N := 0) (f := 0) (n := 0) (zs := []) rfl (fun i => by simp) (by simp)).1
 have HQ := hid (str_eq (a := valB k 0 0 0 []) (b := k :: ts) bdB hbd)
 rw [decide_eq_false HE.out] at HQ
 generalize valB k 0 0 0 [] = BL at *
 have SB := hid (fun (w : World) (ad : Option Addr) (cap : Nat) (r : Reads w ad BL.length BL) => r.str cap 22 Tryz.underlying22 Tryz.underlying5 Tryz.underlying9)
 obtain ⟨c0, c1, c2, c3⟩ := row_cells RA.out
 have q := HQ.out
 clear HQ
 generalize str (k :: ts) = s2 at *
 generalize str BL = s1 at *
 have sb := HS.out W5.drew ((Still.drew W5).below _)
 go_region_with (go_at_call 79; refine (HK.out _ ((Still.drew W5).below _)).mono ?_; rintro e w6 ⟨v, rfl, o, b6⟩; obtain ⟨ad6, cap6, rfl, r6, _⟩ := Reads.own o bdB; have B6 := hid (((Still.drew W5).below W5.heap.size).trans (b6.mono (Nat.le_refl _))); have s6 := SB.out _ _ cap6 r6; have sb6 := HS.out w6 B6.out; clear o b6 r6)
 all_goals
  have R6 := hid ((B6.out.block w.heap.size (Nat.lt_of_succ_lt SZ.out)).trans RR.out)
  have A6 := hid ((B6.out.block (w.heap.size + 1) SZ.out).trans RA.out)
  have D6 := hid (BB.out.trans (B6.out.mono (Nat.le_of_lt (Nat.lt_of_succ_lt SZ.out))))
  clear RR RA BB HS HK c0 c1 c2 c3 s6 sb sb6
  go_wp2_with (first
   | (refine wpList_store_row rfl 29 (.tmp 2) (.tmp 49) rfl w.heap.size #[.int .i64 0, .int .i64 0, .float .f64 0, .slice none 0 0] rfl rfl 29 _ R6.out ?s1 ?s2 ?s3 ?_))
  case s1 => exact size29
  case s2 => rfl
  case s3 => simp [Value.oneCell']
  exact bodyPost_ret (results_cell_tmp Tryz.results100 _ _ w.heap.size 29 #[.int .i64 0, .int .i64 0, .float .f64 0, .slice none 0 0] (0, 0) _ rfl (setRow_heap _ _ _ _ _ _ R6.out) Tryz.underlying29 rfl size29) rfl ⟨rfl, below_setRow D6.out (Nat.le_refl _) _⟩
set_option maxRecDepth 100000 in
set_option maxHeartbeats 3200000 in
theorem spec_ValueRead_1y {b off n : Nat} (cap : Nat) (hcap : n ≤ cap) (hc2 : 2 ≤ cap) {ts : List Int} {w : World} (h1 : 1 ≤ n) (hm : n ≤ 41) (h : Reads w (some ⟨b, off, none⟩) n (1 :: ts)) (E : valB 1 ((low ts : Int) - 9223372036854775808) 0 0 [] = 1 :: ts) :
 Calls Tryz.prog 100 #[.slice (some ⟨b, off, none⟩) n cap] w fun e w' => ∃ v, e = .returned (.tuple #[.agg #[.int .i64 1, .int .i64 ((low ts : Int) - 9223372036854775808), .float .f64 0, v], .bool true]) ∧ w'.ownsRow w.heap.size 5 1 v 0 (bys []) ∧ Below w.heap.size w w' := by
 have hl : ts.length = (n - 1) := by have := h.len; rw [List.length_cons] at this; omega
 have hbd := h.bd
 have hbt : ∀ i, 0 ≤ ts.getD i 0 ∧ ts.getD i 0 ≤ 255 := fun i => hbd (i + 1)
 have c0 : w.cell? ⟨b, off, none⟩ = some (.int .u8 1) := by
  rcases h.cells with h0 | ⟨b', off', e, hcc⟩
  · omega
  · cases e; exact hcc 0 (by omega)
 have rd : Reads w (some ⟨b, off + 1, none⟩) (n - 1) ts := by
  have := h.rest hcap
  rwa [show tl b off cap = (some ⟨b, off + 1, none⟩) by rw [tl, if_neg (by omega)]] at this
 have d0 := cell_oldx (.cells #[.int .i64 1, .int .i64 0, .float .f64 0, .slice none 0 0] 29) (cell_oldx (w := w) (.cells #[.int .i64 0, .int .i64 0, .float .f64 0, .slice none 0 0] 29) c0)
 have d00 := cell_oldx (.cells #[.int .i64 0, .int .i64 0, .float .f64 0, .slice none 0 0] 29) (cell_oldx (w := w) (.cells #[.int .i64 0, .int .i64 0, .float .f64 0, .slice none 0 0] 29) c0)
 have hst0 := fun w a m => run_store Tryz.prog w a (.float .f64 0) m rfl
 have i1 : (1 : Int) ≤ (n : Int) := by omega
 have i2 : (n : Int) ≤ 41 := by omega
 have i4 : (0 : Int) < (n : Int) := by omega
 have i6 : ¬ (n : Int) < 1 := by omega
 have i7 : ¬ (41 : Int) < (n : Int) := by omega
 have i8 : 0 < n := by omega
 have i10 : ¬ n = 0 := by omega
 have i12 : ¬ cap = 1 := by omega
 have j1 : (n : Int) ≤ (cap : Int) := by omega
 have j3 : ¬ cap = 0 := by omega
 have BW0 := hid (two w (.cells #[.int .i64 0, .int .i64 0, .float .f64 0, .slice none 0 0] 29) (.cells #[.int .i64 1, .int .i64 0, .float .f64 0, .slice none 0 0] 29))
 have RW0 := hid (two_rows w (.cells #[.int .i64 0, .int .i64 0, .float .f64 0, .slice none 0 0] 29) (.cells #[.int .i64 1, .int .i64 0, .float .f64 0, .slice none 0 0] 29))
 have HE := hid E
 have H := hid h
 have HRD := hid (rd.below BW0.out (Nat.le_refl _))
 have hx : low ts < 18446744073709551616 := low_lt ts 0 (by omega)
 have hX := xor_low (low ts) hx
 have BW1 := hid (two w (.cells #[.int .i64 0, .int .i64 0, .float .f64 0, .slice none 0 0] 29) (.cells #[.int .i64 1, .int .i64 ((low ts : Int) - 9223372036854775808), .float .f64 0, .slice none 0 0] 29))
 have RW1 := hid (two_rows w (.cells #[.int .i64 0, .int .i64 0, .float .f64 0, .slice none 0 0] 29) (.cells #[.int .i64 1, .int .i64 ((low ts : Int) - 9223372036854775808), .float .f64 0, .slice none 0 0] 29))
 clear c0 rd h E h1
 go_enter Tryz.func100, Tryz.ntmps100
 go_wp2_with fail
 refine (spec_l3low (cap - 1) HRD.out (by omega)).mono ?_
 rintro e w1 ⟨rfl, hw1⟩
 subst w1
 go_wp2_with fail
 have RR := hid RW1.out.1
 have RA := hid RW1.out.2.1
 have SZ := hid (show w.heap.size + 1 < ((w.alloc (.cells #[.int .i64 0, .int .i64 0, .float .f64 0, .slice none 0 0] 29)).alloc (.cells #[.int .i64 1, .int .i64 ((low ts : Int) - 9223372036854775808), .float .f64 0, .slice none 0 0] 29)).heap.size by have := RW1.out.2.2; omega)
 have BB := BW1
 have HB5 := hid (H.out.below BW1.out (Nat.le_refl _))
 generalize ((w.alloc (.cells #[.int .i64 0, .int .i64 0, .float .f64 0, .slice none 0 0] 29)).alloc (.cells #[.int .i64 1, .int .i64 ((low ts : Int) - 9223372036854775808), .float .f64 0, .slice none 0 0] 29)) = W5 at *
 have HS : Hid (∀ W, Below W5.heap.size W5 W → (convert 22 9 (.slice (some ⟨b, off, none⟩) n cap)).run Tryz.prog W = .ok (.string (str (1 :: ts))) W) := hid (fun W bw => (HB5.out.below bw (Nat.le_refl _)).str cap 22 Tryz.underlying22 Tryz.underlying5 Tryz.underlying9)
 have HK : Hid (∀ W, Below W5.heap.size W5 W → Calls Tryz.prog 79 #[.agg #[.int .i64 1, .int .i64 ((low ts : Int) - 9223372036854775808), .float .f64 0, .slice none 0 0]] W fun e w' => ∃ v, e = .returned v ∧ w'.ownsRow W.heap.size 5 1 v (valB 1 ((low ts : Int) - 9223372036854775808) 0 0 []).length (bys (valB 1 ((low ts : Int) - 9223372036854775808) 0 0 [])) ∧ Below W.heap.size W w') := hid (fun W bw => spec_ValueBytes 1 ((low ts : Int) - 9223372036854775808) 0 0 (fun _ => rfl) ⟨rfl, .inl rfl, fun i => by simp⟩ (by omega) (by omega) (by omega) (by omega))
 have bdB := (valB_bd (K := 1) (N := ((low ts : Int) - 9223372036854775808)) (f := 0) (n := 0) (zs := []) rfl (fun i => by simp) (by simp)).1
 have HQ := hid (str_eq (a := valB 1 ((low ts : Int) - 9223372036854775808) 0 0 []) (b := 1 :: ts) bdB hbd)
 rw [decide_eq_true HE.out] at HQ
 generalize valB 1 ((low ts : Int) - 9223372036854775808) 0 0 [] = BL at *
 have SB := hid (fun (w : World) (ad : Option Addr) (cap : Nat) (r : Reads w ad BL.length BL) => r.str cap 22 Tryz.underlying22 Tryz.underlying5 Tryz.underlying9)
 obtain ⟨c0, c1, c2, c3⟩ := row_cells RA.out
 have q := HQ.out
 clear HQ
 generalize str (1 :: ts) = s2 at *
 generalize str BL = s1 at *
 have sb := HS.out W5.drew ((Still.drew W5).below _)
 go_region_with (go_at_call 79; refine (HK.out _ ((Still.drew W5).below _)).mono ?_; rintro e w6 ⟨v, rfl, o, b6⟩; obtain ⟨ad6, cap6, rfl, r6, _⟩ := Reads.own o bdB; have B6 := hid (((Still.drew W5).below W5.heap.size).trans (b6.mono (Nat.le_refl _))); have s6 := SB.out _ _ cap6 r6; have sb6 := HS.out w6 B6.out; clear o b6 r6)
 all_goals
  have R6 := hid ((B6.out.block w.heap.size (Nat.lt_of_succ_lt SZ.out)).trans RR.out)
  have A6 := hid ((B6.out.block (w.heap.size + 1) SZ.out).trans RA.out)
  have D6 := hid (BB.out.trans (B6.out.mono (Nat.le_of_lt (Nat.lt_of_succ_lt SZ.out))))
  clear RR RA BB HS HK c0 c1 c2 c3 s6 sb sb6
  go_wp2_with (first
   | (refine wpList_load_row rfl 29 (.tmp 4) rfl (w.heap.size + 1) rfl 29 _ (0, 0) _ A6.out Tryz.underlying29 rfl size29 ?_)
   | (refine wpList_store_row rfl 29 (.tmp 2) (.tmp 50) rfl w.heap.size #[.int .i64 1, .int .i64 ((low ts : Int) - 9223372036854775808), .float .f64 0, .slice none 0 0] rfl rfl 29 _ R6.out ?s1 ?s2 ?s3 ?_))
  case s1 => exact size29
  case s2 => rfl
  case s3 => simp [Value.oneCell']
  exact bodyPost_ret (results_cell_tmp Tryz.results100 _ _ w.heap.size 29 #[.int .i64 1, .int .i64 ((low ts : Int) - 9223372036854775808), .float .f64 0, .slice none 0 0] (0, 0) _ rfl (setRow_heap _ _ _ _ _ _ R6.out) Tryz.underlying29 rfl size29) rfl ⟨_, rfl, World.ownsRow_nil _ _ _ _, below_setRow D6.out (Nat.le_refl _) _⟩
end Go.Proofs.YtkfhfjghfadofaaGreat
