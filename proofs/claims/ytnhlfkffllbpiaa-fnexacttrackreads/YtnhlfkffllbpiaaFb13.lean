/- The contracts of the program's (Span).has, TrackReads. Conditions: texts of at most 2^21 bytes, at most 2^21 reads. -/
import Derived.Test.YtnhlfkffllbpiaaFa13
namespace Go.Proofs.Ytnhlfkffllbpiaa
open Go.RowKit
set_option maxRecDepth 100000

set_option maxHeartbeats 3200000 in
theorem impl_spanHas (K1 N1 : Int) (F1 : Nat) {p1 : Option Addr} {m1 : Nat} (d1 : Nat) (K2 N2 : Int) (F2 : Nat) {p2 : Option Addr} {m2 : Nat} (d2 : Nat) (KX NX : Int) (FX : Nat) {ax : Option Addr} {m : Nat} (cx : Nat) {Z1 Z2 ZX : List Int} {w : World} (q1 : Reads w p1 m1 Z1) (q2 : Reads w p2 m2 Z2) (qx : Reads w ax m ZX) (hf1 : F1 < 18446744073709551616) (hf2 : F2 < 18446744073709551616) (hfx : FX < 18446744073709551616) (hz1 : m1 ≤ 2097152) (hz2 : m2 ≤ 2097152) (hzx : m ≤ 2097152) :
    Calls Try.prog 51 #[.agg #[.int .i64 K1, .int .i64 N1, .float .f64 F1, .slice p1 m1 d1, .int .i64 K2, .int .i64 N2, .float .f64 F2, .slice p2 m2 d2], .agg #[.int .i64 KX, .int .i64 NX, .float .f64 FX, .slice ax m cx]] w fun e w' => e = .returned (.bool (inM (⟨K1, N1, F1, Z1⟩, ⟨K2, N2, F2, Z2⟩) ⟨KX, NX, FX, ZX⟩)) ∧ Below w.heap.size w w' := by
  have HIn := hid (show inM (⟨K1, N1, F1, Z1⟩, ⟨K2, N2, F2, Z2⟩) ⟨KX, NX, FX, ZX⟩ = inSp K1 N1 F1 m1 Z1 K2 N2 F2 m2 Z2 KX NX FX m ZX by unfold inM; simp only [q1.len, q2.len, qx.len])
  have hst := fun w a m => run_store Try.prog w a (.float .f64 F1) m rfl
  have hst2 := fun w a m => run_store Try.prog w a (.float .f64 F2) m rfl
  have hst3 := fun w a m => run_store Try.prog w a (.float .f64 FX) m rfl
  have hB := two w (.cells #[.int .i64 K1, .int .i64 N1, .float .f64 F1, .slice p1 m1 d1, .int .i64 K2, .int .i64 N2, .float .f64 F2, .slice p2 m2 d2] 32) (.cells #[.int .i64 KX, .int .i64 NX, .float .f64 FX, .slice ax m cx] 30)
  have HQ1 := hid (q1.below hB (Nat.le_refl _))
  have HQ2 := hid (q2.below hB (Nat.le_refl _))
  have HQX := hid (qx.below hB (Nat.le_refl _))
  have HB := hid hB
  clear hB q1 q2 qx
  go_enter Try.func51, Try.ntmps51
  go_wp2_with fail
  refine (impl_InSpan K1 N1 K2 N2 KX NX F1 F2 FX d1 d2 cx hf1 hf2 hfx HQ1.out HQ2.out HQX.out hz1 hz2 hzx).mono ?_
  rintro e w1 ⟨rfl, b1⟩
  rw [← HIn.out]
  replace HB := hid (HB.out.trans (b1.mono HB.out.size))
  clear b1
  go_wp2_with fail
  go_ret
  exact ⟨rfl, HB.out⟩

set_option maxHeartbeats 3200000 in
theorem impl_reads1 (K1 N1 : Int) (F1 : Nat) {p1 : Option Addr} {m1 : Nat} (d1 : Nat) (K2 N2 : Int) (F2 : Nat) {p2 : Option Addr} {m2 : Nat} (d2 : Nat) (KX NX : Int) (FX : Nat) {ax : Option Addr} {m : Nat} (cx : Nat) {Z1 Z2 ZX : List Int} {w : World} (q1 : Reads w p1 m1 Z1) (q2 : Reads w p2 m2 Z2) (qx : Reads w ax m ZX) (hf1 : F1 < 18446744073709551616) (hf2 : F2 < 18446744073709551616) (hfx : FX < 18446744073709551616) (hz1 : m1 ≤ 2097152) (hz2 : m2 ≤ 2097152) (hzx : m ≤ 2097152) (g : Nat) (bx : BoxJ w g KX NX FX (.slice ax m cx)) :
    Calls Try.prog 50 #[.agg #[.int .i64 K1, .int .i64 N1, .float .f64 F1, .slice p1 m1 d1, .int .i64 K2, .int .i64 N2, .float .f64 F2, .slice p2 m2 d2], .pointer (some ⟨g, 0, none⟩)] w fun e w' => e = .returned (.bool (inM (⟨K1, N1, F1, Z1⟩, ⟨K2, N2, F2, Z2⟩) ⟨KX, NX, FX, ZX⟩)) ∧ Below w.heap.size w w' := by
  have hst := fun w a m => run_store Try.prog w a (.float .f64 F1) m rfl
  have hst2 := fun w a m => run_store Try.prog w a (.float .f64 F2) m rfl
  have hst3 := fun w a m => run_store Try.prog w a (.float .f64 FX) m rfl
  have hB := Below.alloc1 w (.cells #[.int .i64 K1, .int .i64 N1, .float .f64 F1, .slice p1 m1 d1, .int .i64 K2, .int .i64 N2, .float .f64 F2, .slice p2 m2 d2] 32)
  have HQ1 := hid (q1.below hB (Nat.le_refl _))
  have HQ2 := hid (q2.below hB (Nat.le_refl _))
  have HQX := hid (qx.below hB (Nat.le_refl _))
  have HB := hid hB
  obtain ⟨c0, c1, c2, c3⟩ := bx.below hB (Nat.le_refl _)
  clear hB q1 q2 qx bx
  go_enter Try.func50, Try.ntmps50
  go_wp2_with fail
  clear c0 c1 c2 c3
  refine (impl_spanHas K1 N1 F1 d1 K2 N2 F2 d2 KX NX FX cx HQ1.out HQ2.out HQX.out hf1 hf2 hfx hz1 hz2 hzx).mono ?_
  rintro e w1 ⟨rfl, b1⟩
  replace HB := hid (HB.out.trans (b1.mono HB.out.size))
  clear b1
  go_wp2_with fail
  go_ret
  exact ⟨rfl, HB.out⟩

set_option maxHeartbeats 3200000 in
theorem index_reads {a : Option Addr} {n : Nat} (c : Nat) {rs : List (Im × Im)} (KX NX : Int) (FX : Nat) {ax : Option Addr} {m : Nat} (cx : Nat) {ZX : List Int} {w : World} (h : ReadsM w a (fl2 rs)) (hl : rs.length = n) (hn : n ≤ 2097152) (hs : ∀ i, ((fl2 rs).getD i im0).Z.length ≤ 2097152) (qx : Reads w ax m ZX) (hfx : FX < 18446744073709551616) (hzx : m ≤ 2097152) (g : Nat) (bx : BoxJ w g KX NX FX (.slice ax m cx)) :
    Calls Try.prog 89 #[.slice a n c, .func (.func 50) #[] #[.pointer (some ⟨g, 0, none⟩)]] w fun e w' => ∃ r : Int, e = .returned (.int .i64 r) ∧ decide (0 ≤ r) = rs.any (fun p => inM p ⟨KX, NX, FX, ZX⟩) ∧ Below w.heap.size w w' := by
  have HRM := hid h
  have HL := hid hl
  have HS := hid hs
  have HQX := hid qx
  have HBX := hid bx
  clear h hl hs qx bx
  go_enter Try.func89, Try.ntmps89
  go_wp2_with fail
  go_loopw [8] (fun i wr => ∃ k : Nat, k ≤ n ∧ i = .int .i64 k ∧ Hid (∀ i, i < k → inM (rs.getD i sp0) ⟨KX, NX, FX, ZX⟩ = false) ∧ Hid (Below w.heap.size w wr)) (fun i _ => n - (intOf i).toNat)
  case atStart => exact ⟨0, Nat.zero_le _, rfl, hid (fun i hi => by omega), hid (Below.refl _ _)⟩
  case round =>
    obtain ⟨k, hk, rfl, HNo, HW⟩ := hrel
    by_cases hlt : k < n
    · have hlt' : (k : Int) < (n : Int) := by omega
      have hk0 : (0 : Int) ≤ (k : Int) := by omega
      have hl2 : (fl2 rs).length = n * 2 := by rw [fl2_len, HL.out]
      obtain ⟨b, off, p1, d1, rfl, bx, q1, _, _, hf1⟩ := HRM.out.at (k := k * 2) (by omega)
      obtain ⟨b', off', p2, d2, e', by', q2, _, _, hf2⟩ := HRM.out.at (k := k * 2 + 1) (by omega)
      obtain ⟨rfl, rfl⟩ : b = b' ∧ off = off' := by simpa using e'
      have hz1 := HS.out (k * 2)
      have hz2 := HS.out (k * 2 + 1)
      have hat := fl2_at rs k
      rw [hat.1] at bx q1 hf1 hz1
      rw [hat.2] at by' q2 hf2 hz2
      have HOne := hid (fun q => any_one (rs := rs) (x := ⟨KX, NX, FX, ZX⟩) (i := k) (by have := HL.out; omega) q)
      have HNx := hid (fun (q : inM (rs.getD k sp0) ⟨KX, NX, FX, ZX⟩ = false) i (hi : i < k + 1) => show inM (rs.getD i sp0) ⟨KX, NX, FX, ZX⟩ = false from by
        by_cases hc : i < k
        · exact HNo.out i hc
        · have : i = k := by omega
          subst this; exact q)
      generalize rs.getD k sp0 = pp at *
      obtain ⟨⟨K1, N1, F1, Z1⟩, K2, N2, F2, Z2⟩ := pp
      simp only at bx by' q1 q2 hf1 hf2 hz1 hz2
      obtain ⟨m1, hm1⟩ : ∃ m, Z1.length = m := ⟨_, rfl⟩
      obtain ⟨m2, hm2⟩ : ∃ m, Z2.length = m := ⟨_, rfl⟩
      rw [hm1] at bx q1 hz1
      rw [hm2] at by' q2 hz2
      rw [show off + k * 2 * 4 = off + k * 8 by omega] at bx
      rw [show off + (k * 2 + 1) * 4 = off + k * 8 + 4 by omega] at by'
      obtain ⟨x0, x1, x2, x3⟩ := bx.below HW.out (Nat.le_refl _)
      obtain ⟨x4, x5, x6, x7⟩ := by'.below HW.out (Nat.le_refl _)
      have Q1 := hid (q1.below HW.out (Nat.le_refl _))
      have Q2 := hid (q2.below HW.out (Nat.le_refl _))
      clear bx by' q1 q2 hm1 hm2 hat hl2 e'
      go_wp2_with fail
      clear x0 x1 x2 x3 x4 x5 x6 x7
      refine (impl_reads1 K1 N1 F1 d1 K2 N2 F2 d2 KX NX FX cx Q1.out Q2.out (HQX.out.below HW.out (Nat.le_refl _)) hf1 hf2 hfx hz1 hz2 hzx g (HBX.out.below HW.out (Nat.le_refl _))).mono ?_
      rintro e w1 ⟨rfl, b1⟩
      have HW2 := hid (HW.out.trans (b1.mono HW.out.size))
      clear b1
      cases hin : inM (⟨K1, N1, F1, Z1⟩, ⟨K2, N2, F2, Z2⟩) ⟨KX, NX, FX, ZX⟩ with
      | true =>
        have HT := hid (HOne.out hin)
        clear hin
        go_wp2_with fail
        go_ret
        exact ⟨_, rfl, by rw [HT.out]; exact decide_eq_true hk0, HW2.out⟩
      | false =>
        have HN2 := hid (HNx.out hin)
        clear hin
        go_wp2_with fail
        go_roundw
        case rel => exact ⟨k + 1, by omega, by go_num, HN2, HW2⟩
        case measure => simp [intOf]; omega
    · have hlt' : ¬ (k : Int) < (n : Int) := by omega
      have HE := hid (any_none (rs := rs) (x := ⟨KX, NX, FX, ZX⟩) (fun i hi => HNo.out i (by have := HL.out; omega)))
      go_wp2_with fail
      go_ret
      exact ⟨_, rfl, by rw [HE.out]; decide, HW.out⟩

set_option maxHeartbeats 1600000 in
theorem contains_reads {a : Option Addr} {n : Nat} (c : Nat) {rs : List (Im × Im)} (KX NX : Int) (FX : Nat) {ax : Option Addr} {m : Nat} (cx : Nat) {ZX : List Int} {w : World} (h : ReadsM w a (fl2 rs)) (hl : rs.length = n) (hn : n ≤ 2097152) (hs : ∀ i, ((fl2 rs).getD i im0).Z.length ≤ 2097152) (qx : Reads w ax m ZX) (hfx : FX < 18446744073709551616) (hzx : m ≤ 2097152) (g : Nat) (bx : BoxJ w g KX NX FX (.slice ax m cx)) :
    Calls Try.prog 52 #[.slice a n c, .func (.func 50) #[] #[.pointer (some ⟨g, 0, none⟩)]] w fun e w' => e = .returned (.bool (rs.any (fun p => inM p ⟨KX, NX, FX, ZX⟩))) ∧ Below w.heap.size w w' := by
  go_enter Try.func52, Try.ntmps52
  go_wp2_with fail
  refine (index_reads c KX NX FX cx h hl hn hs qx hfx hzx g bx).mono ?_
  rintro e w1 ⟨r, rfl, hr, b⟩
  have HB := hid b
  have HR := hid hr
  clear b hr
  go_wp2_with fail
  go_ret
  exact ⟨by rw [← HR.out]; rfl, HB.out⟩

set_option maxHeartbeats 3200000 in
theorem impl_TrackReads (t : Tk) (x : Im) {a1 : Option Addr} {n1 : Nat} (c1 : Nat) (y : Value) {ax : Option Addr} {m : Nat} (cx : Nat) {w : World} (hn1 : t.rs.length = n1) (hm : x.Z.length = m) (h : ReadsM w a1 (fl2 t.rs)) (hx : Reads w ax m x.Z) (hfx : x.F < 18446744073709551616) (hnx : m ≤ 2097152) (hs : ∀ i, ((fl2 t.rs).getD i im0).Z.length ≤ 2097152) (hn : n1 ≤ 2097152) (_ : bdT1 t) :
    Calls Try.prog 20 #[tkV t (.slice a1 n1 c1) y, imV x (.slice ax m cx)] w fun e w' => e = .returned (.bool (readsB t x)) ∧ Below w.heap.size w w' := by
  obtain ⟨xi, be, en, al, rs, ws, inn, ou⟩ := t
  obtain ⟨KX, NX, FX, ZX⟩ := x
  simp only at h hx hfx hs hn1 hm
  have hst := fun w a m => run_store Try.prog w a (.float .f64 FX) m rfl
  have hB := two w (.cells #[.int .i64 xi, .int .i64 be, .int .i64 en, .bool al, .slice a1 n1 c1, y, .bool inn, .bool ou] 46) (.cells #[.int .i64 KX, .int .i64 NX, .float .f64 FX, .slice ax m cx] 30)
  obtain ⟨R1, R2, z⟩ := two_rows13 w (.cells #[.int .i64 xi, .int .i64 be, .int .i64 en, .bool al, .slice a1 n1 c1, y, .bool inn, .bool ou] 46) (.cells #[.int .i64 KX, .int .i64 NX, .float .f64 FX, .slice ax m cx] 30)
  have HA0 := hid (BoxK.row R1)
  have HA1 := hid (BoxJ.row R2)
  have HB := hid hB
  have HRM := hid h
  have HRX := hid hx
  have HN1 := hid hn1
  have HSS := hid hs
  obtain ⟨V, hV⟩ : ∃ V, readsB ⟨xi, be, en, al, rs, ws, inn, ou⟩ ⟨KX, NX, FX, ZX⟩ = V := ⟨_, rfl⟩
  rw [hV]
  have HV := hid (show V = (okK KX NX FX m && (rs.any (fun p => inM p ⟨KX, NX, FX, ZX⟩) || al)) by rw [← hV]; unfold readsB okM; simp only [hm])
  clear hB R1 R2 z h hx hV hn1 hs
  go_enter Try.func20, Try.ntmps20
  go_wp2_with fail
  refine (impl_KeyOk KX NX FX ax m cx hfx hnx _).mono ?_
  rintro e w1 ⟨rfl, b⟩
  replace HA0 := hid (HA0.out.below b (Nat.le_refl _))
  replace HA1 := hid (HA1.out.below b (Nat.le_refl _))
  replace HB := hid (HB.out.trans (b.mono HB.out.size))
  clear b
  cases hk : okK KX NX FX m with
  | false =>
    have HF := hid (show V = false by rw [HV.out, hk]; rfl)
    clear hk
    go_wp2_with fail
    go_ret
    exact ⟨by rw [HF.out]; rfl, HB.out⟩
  | true =>
    replace HV := hid (show V = (rs.any (fun p => inM p ⟨KX, NX, FX, ZX⟩) || al) by rw [HV.out, hk]; rfl)
    clear hk
    have k3 := HA0.out.c3
    have k4 := HA0.out.c4
    cases al with
    | true =>
      go_wp2_with fail
      go_ret
      exact ⟨by rw [HV.out, Bool.or_true]; rfl, HB.out⟩
    | false =>
      go_wp2_with fail
      clear k3 k4
      refine (contains_reads c1 KX NX FX cx (HRM.out.below HB.out (Nat.le_refl _)) HN1.out hn HSS.out (HRX.out.below HB.out (Nat.le_refl _)) hfx hnx _ HA1.out).mono ?_
      rintro e w2 ⟨rfl, b⟩
      replace HB := hid (HB.out.trans (b.mono HB.out.size))
      clear b
      go_wp2_with fail
      go_ret
      exact ⟨by rw [HV.out, Bool.or_false]; rfl, HB.out⟩
end Go.Proofs.Ytnhlfkffllbpiaa
