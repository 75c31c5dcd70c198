/- FnKeys' walk. -/
import Derived.Test.YtlapfmfaammheaaD8
import Derived.Test.YtlapfmfaammheaaTm
import Derived.Test.YtlapfmfaammheaaTi
import Derived.Test.YtlapfmfaammheaaSmi
import Derived.Test.YtlapfmfaammheaaSo
import Derived.Test.YtlapfmfaammheaaKb
import Derived.Test.YtlapfmfaammheaaImr
import Derived.Test.YtlapfmfaammheaaIx
import Derived.Test.YtlapfmfaammheaaNzt
import Derived.Deep.DeepCutAuto
namespace Go.Proofs.Ytlapfmfaammheaa
open Go.RowKit
set_option maxRecDepth 100000

set_option maxHeartbeats 25600000 in
theorem lawKeys {ad : Option Addr} {n : Nat} (cap : Nat) {zs : List Int} {w : World} (r : Reads w ad n zs) (hm : n ≤ maxLen) :
    Calls Try.prog 3 #[.slice ad n cap] w fun e w' => e = .returned (.bool true) ∧ Below w.heap.size w w' := by
  unfold maxLen at hm
  have HB := hid (Below.refl w.heap.size w)
  have HR := hid r
  have hbg := law_big ad n cap
  clear r
  go_enter Try.func3, Try.ntmps3
  go_wp2_with fail
  refine (hbg _).mono ?_
  rintro e w0 ⟨rfl, hw0⟩
  subst w0
  clear hbg
  by_cases hbig : (1048576 : Int) < (n : Int)
  · rw [decide_eq_true hbig]
    go_wp2_with fail
    go_ret
    exact ⟨rfl, HB.out⟩
  rw [decide_eq_false hbig]
  have hn : n ≤ 2097152 := by omega
  clear hbig
  go_wp2_with fail
  refine (drawCmp cap HR.out hn).mono ?_
  rintro e w1 ⟨K3, N3, f3, a3, n3, c3, D3, K4, N4, f4, a4, n4, c4, D4, rfl, I3, I4, b⟩
  have hs3 := fun w a m => run_store Try.prog w a (.float .f64 f3) m rfl
  have hs4 := fun w a m => run_store Try.prog w a (.float .f64 f4) m rfl
  have J3 := hid I3
  have J4 := hid I4
  have RZ := hid (HR.out.below b (Nat.le_refl _))
  replace HB := hid (HB.out.trans (b.mono HB.out.size))
  clear b I3 I4 HR
  have BW := hid (two w1 (.cells #[.int .i64 K3, .int .i64 N3, .float .f64 f3, .slice a3 n3 c3] 26) (.cells #[.int .i64 K4, .int .i64 N4, .float .f64 f4, .slice a4 n4 c4] 26))
  have RR := hid (two_rows w1 (.cells #[.int .i64 K3, .int .i64 N3, .float .f64 f3, .slice a3 n3 c3] 26) (.cells #[.int .i64 K4, .int .i64 N4, .float .f64 f4, .slice a4 n4 c4] 26))
  go_wp2_with fail
  generalize (w1.alloc (.cells #[.int .i64 K3, .int .i64 N3, .float .f64 f3, .slice a3 n3 c3] 26)).alloc (.cells #[.int .i64 K4, .int .i64 N4, .float .f64 f4, .slice a4 n4 c4] 26) = U1 at *
  have PA := hid RR.out.1
  have PB := hid RR.out.2.1
  have SZ := hid RR.out.2.2
  clear RR
  have J3c := J3.out.below BW.out (Nat.le_refl _)
  refine (clean_any K3 N3 f3 c3 J3c.nl J3c.rd J3c.f0 (by have := J3c.m0; omega) ⟨J3c.n0, J3c.n1⟩).mono ?_
  rintro e w2 ⟨K1, N1, f1, v, D1, rfl, o, bd1, ld1, hN1, hf1, b⟩
  obtain ⟨a1, c1, rfl⟩ := own_form2 o
  have hs1 := fun w a m => run_store Try.prog w a (.float .f64 f1) m rfl
  have B1 := hid bd1
  have L1 : D1.length ≤ 10000 := by have := J3c.m0; omega
  have sz := SZ.out
  have bs := b.size
  have pa := (b.block w1.heap.size (by omega)).trans PA.out
  have pb := (b.block (w1.heap.size + 1) (by omega)).trans PB.out
  have TQ := hid pa
  replace PA := hid (setRow_heap w2 w1.heap.size _ #[.int .i64 K1, .int .i64 N1, .float .f64 f1, .slice a1 D1.length c1] _ _ pa)
  replace PB := hid ((setRow_other w2 w1.heap.size (w1.heap.size + 1) #[.int .i64 K1, .int .i64 N1, .float .f64 f1, .slice a1 D1.length c1] (by omega)).trans pb)
  have OA := hid (own_rowed o pa (by decide) #[.int .i64 K1, .int .i64 N1, .float .f64 f1, .slice a1 D1.length c1])
  replace BW := hid (below_setRow (BW.out.trans (b.mono (by omega))) (Nat.le_refl _) #[.int .i64 K1, .int .i64 N1, .float .f64 f1, .slice a1 D1.length c1])
  replace SZ := hid (show w1.heap.size + 2 ≤ (w2.setRow w1.heap.size #[.int .i64 K1, .int .i64 N1, .float .f64 f1, .slice a1 D1.length c1]).heap.size by simp; omega)
  clear J3c o bd1 ld1 b sz bs pa pb
  obtain ⟨k0, k1, k2, k3⟩ := row_cells PB.out
  go_wp2_with (first
    | (refine wpList_store_row rfl 26 (.tmp 3) (.tmp 24) rfl w1.heap.size #[.int .i64 K1, .int .i64 N1, .float .f64 f1, .slice a1 D1.length c1] rfl rfl 26 _ TQ.out ?s1 ?s2 ?s3 ?_))
  case s1 => exact size_it6
  case s2 => rfl
  case s3 => simp [Value.oneCell']
  clear k0 k1 k2 k3 TQ
  generalize w2.setRow w1.heap.size #[.int .i64 K1, .int .i64 N1, .float .f64 f1, .slice a1 D1.length c1] = U2 at *
  have J4c := J4.out.below BW.out (Nat.le_refl _)
  refine (clean_any K4 N4 f4 c4 J4c.nl J4c.rd J4c.f0 (by have := J4c.m0; omega) ⟨J4c.n0, J4c.n1⟩).mono ?_
  rintro e w3 ⟨K2, N2, f2, v, D2, rfl, o, bd2, ld2, hN2, hf2, b⟩
  obtain ⟨a2, c2, rfl⟩ := own_form2 o
  have hs2 := fun w a m => run_store Try.prog w a (.float .f64 f2) m rfl
  have B2 := hid bd2
  have L2 : D2.length ≤ 10000 := by have := J4c.m0; omega
  have sz := SZ.out
  have bs := b.size
  have pa := (b.block w1.heap.size (by omega)).trans PA.out
  have pb := (b.block (w1.heap.size + 1) (by omega)).trans PB.out
  have TQ := hid pb
  replace PB := hid (setRow_heap w3 (w1.heap.size + 1) _ #[.int .i64 K2, .int .i64 N2, .float .f64 f2, .slice a2 D2.length c2] _ _ pb)
  replace PA := hid ((setRow_other w3 (w1.heap.size + 1) w1.heap.size #[.int .i64 K2, .int .i64 N2, .float .f64 f2, .slice a2 D2.length c2] (by omega)).trans pa)
  replace OA := hid (own_rowed (owns_below b (Nat.le_refl _) OA.out) pb (by decide) #[.int .i64 K2, .int .i64 N2, .float .f64 f2, .slice a2 D2.length c2])
  have OB := hid (own_rowed o pb (by decide) #[.int .i64 K2, .int .i64 N2, .float .f64 f2, .slice a2 D2.length c2])
  replace BW := hid (below_setRow (BW.out.trans (b.mono (by omega))) (show w1.heap.size ≤ w1.heap.size + 1 by omega) #[.int .i64 K2, .int .i64 N2, .float .f64 f2, .slice a2 D2.length c2])
  clear J4c o bd2 ld2 b sz bs pa pb SZ
  obtain ⟨k0, k1, k2, k3⟩ := row_cells PA.out
  go_wp2_with (first
    | (refine wpList_store_row rfl 26 (.tmp 4) (.tmp 26) rfl (w1.heap.size + 1) #[.int .i64 K2, .int .i64 N2, .float .f64 f2, .slice a2 D2.length c2] rfl rfl 26 _ TQ.out ?s4 ?s5 ?s6 ?_))
  case s4 => exact size_it6
  case s5 => rfl
  case s6 => simp [Value.oneCell']
  clear k0 k1 k2 k3 TQ hs1 hs2 hs3 hs4 J3 J4
  generalize w3.setRow (w1.heap.size + 1) #[.int .i64 K2, .int .i64 N2, .float .f64 f2, .slice a2 D2.length c2] = U3 at *
  have RA : Hid (Reads U3 a1 D1.length D1) := hid (by obtain ⟨_, _, e, r, _⟩ := Reads.own OA.out B1.out; obtain ⟨rfl, _, rfl⟩ := Value.slice.inj e; exact r)
  have RB : Hid (Reads U3 a2 D2.length D2) := hid (by obtain ⟨_, _, e, r, _⟩ := Reads.own OB.out B2.out; obtain ⟨rfl, _, rfl⟩ := Value.slice.inj e; exact r)
  have NA := hid (own_nil OA.out)
  have NB := hid (own_nil OB.out)
  clear OA OB
  refine (spec_KeyOk K1 N1 f1 a1 D1.length c1 hf1 (by omega) _).mono ?_
  rintro e w4 ⟨rfl, b⟩
  replace PA := hid ((b.block w1.heap.size (blk PA.out)).trans PA.out)
  replace PB := hid ((b.block (w1.heap.size + 1) (blk PB.out)).trans PB.out)
  replace RA := hid (RA.out.below b (Nat.le_refl _))
  replace RB := hid (RB.out.below b (Nat.le_refl _))
  replace BW := hid (BW.out.trans (b.mono BW.out.size))
  clear b
  by_cases ok1 : okK K1 N1 f1 D1.length = true
  case neg =>
    rw [show okK K1 N1 f1 D1.length = false by simpa using ok1]
    clear ok1
    go_wp2_with fail
    have dd := (Still.drew w4).below w4.heap.size
    replace PA := hid ((dd.block w1.heap.size (blk PA.out)).trans PA.out)
    replace PB := hid ((dd.block (w1.heap.size + 1) (blk PB.out)).trans PB.out)
    replace RA := hid (RA.out.below dd (Nat.le_refl _))
    replace RB := hid (RB.out.below dd (Nat.le_refl _))
    replace BW := hid (BW.out.trans (dd.mono BW.out.size))
    clear dd
    refine region_K 5 (fun W => W.cell? ⟨w1.heap.size, 0, none⟩ = some (.int .i64 K1) ∧ W.cell? ⟨w1.heap.size, 1, none⟩ = some (.int .i64 N1) ∧ W.cell? ⟨w1.heap.size, 2, none⟩ = some (.float .f64 f1) ∧ W.cell? ⟨w1.heap.size, 3, none⟩ = some (.slice a1 D1.length c1)) (by kernel_rfl) ?_ (fun hHeld => ?_)
    · exact (row_cells PA.out)
    generalize w4.drew = v0 at *
    refine anyK_take (i := 0) (v := ?v1) rfl (by kernel_rfl) (by kernel_rfl) (by kernel_rfl) (by kernel_rfl) (fun _ _ _ h => h) (by rfl) hHeld ?hy1 (some 35) (by rfl) ?rest1
    case hy1 => (intro W hSw; obtain ⟨x0, x1, x2, x3⟩ := hSw; go_simp; (try with_reducible rfl))
    try simp only [Act.put]
    try simp only [List.setIfInBounds_toArray]
    try simp only [List.set_cons_succ, List.set_cons_zero]
    refine anyK_take (i := 2) (v := ?v2) rfl (by kernel_rfl) (by kernel_rfl) (by kernel_rfl) (by kernel_rfl) (fun _ _ _ h => h) (by rfl) hHeld ?hy2 (some 37) (by rfl) ?rest2
    case hy2 => (intro W hSw; obtain ⟨x0, x1, x2, x3⟩ := hSw; go_simp; (try with_reducible rfl))
    try simp only [Act.put]
    try simp only [List.setIfInBounds_toArray]
    try simp only [List.set_cons_succ, List.set_cons_zero]
    refine anyK_step (i := 1) (by kernel_rfl) rfl (fun KP hK => ?_)
    go_simp
    refine (impl_KeyOk K1 N1 f1 a1 D1.length c1 hf1 (by omega) _).mono ?_
    rintro e v1 ⟨rfl, b⟩
    replace PA := hid ((b.block w1.heap.size (blk PA.out)).trans PA.out)
    replace PB := hid ((b.block (w1.heap.size + 1) (blk PB.out)).trans PB.out)
    replace RA := hid (RA.out.below b (Nat.le_refl _))
    replace RB := hid (RB.out.below b (Nat.le_refl _))
    replace BW := hid (BW.out.trans (b.mono BW.out.size))
    clear b
    go_wp2_with fail
    refine hK.out _ _ ?_ (fun hH2 => ?_)
    · exact (row_cells PA.out)
    clear hK KP hHeld
    have hHeld := hH2
    clear hH2
    try simp only [Act.put]
    try simp only [List.setIfInBounds_toArray]
    try simp only [List.set_cons_succ, List.set_cons_zero]
    refine anyK_step (i := 3) (by kernel_rfl) rfl (fun KP hK => ?_)
    go_simp
    refine (spec_KeyOk K1 N1 f1 a1 D1.length c1 hf1 (by omega) _).mono ?_
    rintro e v2 ⟨rfl, b⟩
    replace PA := hid ((b.block w1.heap.size (blk PA.out)).trans PA.out)
    replace PB := hid ((b.block (w1.heap.size + 1) (blk PB.out)).trans PB.out)
    replace RA := hid (RA.out.below b (Nat.le_refl _))
    replace RB := hid (RB.out.below b (Nat.le_refl _))
    replace BW := hid (BW.out.trans (b.mono BW.out.size))
    clear b
    go_wp2_with fail
    refine hK.out _ _ ?_ (fun hH2 => ?_)
    · exact (row_cells PA.out)
    clear hK KP hHeld
    have hHeld := hH2
    clear hH2
    try simp only [Act.put]
    try simp only [List.setIfInBounds_toArray]
    try simp only [List.set_cons_succ, List.set_cons_zero]
    have hq : (okK K1 N1 f1 D1.length == okK K1 N1 f1 D1.length) = true := by simp
    generalize okK K1 N1 f1 D1.length = ok at *
    refine anyK_step (i := 4) (by kernel_rfl) rfl (fun KP hK => ?_)
    go_simp
    refine hK.out _ _ ?_ (fun hH2 => ?_)
    · exact (row_cells PA.out)
    clear hK KP hHeld
    have hHeld := hH2
    clear hH2
    try simp only [Act.put]
    try simp only [List.setIfInBounds_toArray]
    try simp only [List.set_cons_succ, List.set_cons_zero]
    refine anyK_last (by kernel_rfl) rfl (fun KP hK => ?_)
    go_simp
    refine hK.out _ _ ?_
    clear hK KP hHeld
    refine anyK_done (by kernel_rfl) ?_ _
    go_wp2_with fail
    go_ret
    exact ⟨rfl, HB.out.trans (BW.out.mono HB.out.size)⟩
  rw [ok1]
  obtain ⟨k0, k1, k2, k3⟩ := row_cells PB.out
  go_wp2_with fail
  clear k0 k1 k2 k3
  refine (spec_KeyOk K2 N2 f2 a2 D2.length c2 hf2 (by omega) _).mono ?_
  rintro e w5 ⟨rfl, b⟩
  replace PA := hid ((b.block w1.heap.size (blk PA.out)).trans PA.out)
  replace PB := hid ((b.block (w1.heap.size + 1) (blk PB.out)).trans PB.out)
  replace RA := hid (RA.out.below b (Nat.le_refl _))
  replace RB := hid (RB.out.below b (Nat.le_refl _))
  replace BW := hid (BW.out.trans (b.mono BW.out.size))
  clear b
  by_cases ok2 : okK K2 N2 f2 D2.length = true
  case neg =>
    rw [show okK K2 N2 f2 D2.length = false by simpa using ok2]
    clear ok1 ok2
    go_wp2_with fail
    have dd := (Still.drew w5).below w5.heap.size
    replace PA := hid ((dd.block w1.heap.size (blk PA.out)).trans PA.out)
    replace PB := hid ((dd.block (w1.heap.size + 1) (blk PB.out)).trans PB.out)
    replace RA := hid (RA.out.below dd (Nat.le_refl _))
    replace RB := hid (RB.out.below dd (Nat.le_refl _))
    replace BW := hid (BW.out.trans (dd.mono BW.out.size))
    clear dd
    refine region_K 5 (fun W => W.cell? ⟨w1.heap.size, 0, none⟩ = some (.int .i64 K1) ∧ W.cell? ⟨w1.heap.size, 1, none⟩ = some (.int .i64 N1) ∧ W.cell? ⟨w1.heap.size, 2, none⟩ = some (.float .f64 f1) ∧ W.cell? ⟨w1.heap.size, 3, none⟩ = some (.slice a1 D1.length c1)) (by kernel_rfl) ?_ (fun hHeld => ?_)
    · exact (row_cells PA.out)
    generalize w5.drew = v0 at *
    refine anyK_take (i := 0) (v := ?v3) rfl (by kernel_rfl) (by kernel_rfl) (by kernel_rfl) (by kernel_rfl) (fun _ _ _ h => h) (by rfl) hHeld ?hy3 (some 35) (by rfl) ?rest3
    case hy3 => (intro W hSw; obtain ⟨x0, x1, x2, x3⟩ := hSw; go_simp; (try with_reducible rfl))
    try simp only [Act.put]
    try simp only [List.setIfInBounds_toArray]
    try simp only [List.set_cons_succ, List.set_cons_zero]
    refine anyK_take (i := 2) (v := ?v4) rfl (by kernel_rfl) (by kernel_rfl) (by kernel_rfl) (by kernel_rfl) (fun _ _ _ h => h) (by rfl) hHeld ?hy4 (some 37) (by rfl) ?rest4
    case hy4 => (intro W hSw; obtain ⟨x0, x1, x2, x3⟩ := hSw; go_simp; (try with_reducible rfl))
    try simp only [Act.put]
    try simp only [List.setIfInBounds_toArray]
    try simp only [List.set_cons_succ, List.set_cons_zero]
    refine anyK_step (i := 1) (by kernel_rfl) rfl (fun KP hK => ?_)
    go_simp
    refine (impl_KeyOk K1 N1 f1 a1 D1.length c1 hf1 (by omega) _).mono ?_
    rintro e v1 ⟨rfl, b⟩
    replace PA := hid ((b.block w1.heap.size (blk PA.out)).trans PA.out)
    replace PB := hid ((b.block (w1.heap.size + 1) (blk PB.out)).trans PB.out)
    replace RA := hid (RA.out.below b (Nat.le_refl _))
    replace RB := hid (RB.out.below b (Nat.le_refl _))
    replace BW := hid (BW.out.trans (b.mono BW.out.size))
    clear b
    go_wp2_with fail
    refine hK.out _ _ ?_ (fun hH2 => ?_)
    · exact (row_cells PA.out)
    clear hK KP hHeld
    have hHeld := hH2
    clear hH2
    try simp only [Act.put]
    try simp only [List.setIfInBounds_toArray]
    try simp only [List.set_cons_succ, List.set_cons_zero]
    refine anyK_step (i := 3) (by kernel_rfl) rfl (fun KP hK => ?_)
    go_simp
    refine (spec_KeyOk K1 N1 f1 a1 D1.length c1 hf1 (by omega) _).mono ?_
    rintro e v2 ⟨rfl, b⟩
    replace PA := hid ((b.block w1.heap.size (blk PA.out)).trans PA.out)
    replace PB := hid ((b.block (w1.heap.size + 1) (blk PB.out)).trans PB.out)
    replace RA := hid (RA.out.below b (Nat.le_refl _))
    replace RB := hid (RB.out.below b (Nat.le_refl _))
    replace BW := hid (BW.out.trans (b.mono BW.out.size))
    clear b
    go_wp2_with fail
    refine hK.out _ _ ?_ (fun hH2 => ?_)
    · exact (row_cells PA.out)
    clear hK KP hHeld
    have hHeld := hH2
    clear hH2
    try simp only [Act.put]
    try simp only [List.setIfInBounds_toArray]
    try simp only [List.set_cons_succ, List.set_cons_zero]
    have hq : (okK K1 N1 f1 D1.length == okK K1 N1 f1 D1.length) = true := by simp
    generalize okK K1 N1 f1 D1.length = ok at *
    refine anyK_step (i := 4) (by kernel_rfl) rfl (fun KP hK => ?_)
    go_simp
    refine hK.out _ _ ?_ (fun hH2 => ?_)
    · exact (row_cells PA.out)
    clear hK KP hHeld
    have hHeld := hH2
    clear hH2
    try simp only [Act.put]
    try simp only [List.setIfInBounds_toArray]
    try simp only [List.set_cons_succ, List.set_cons_zero]
    refine anyK_last (by kernel_rfl) rfl (fun KP hK => ?_)
    go_simp
    refine hK.out _ _ ?_
    clear hK KP hHeld
    refine anyK_done (by kernel_rfl) ?_ _
    go_wp2_with fail
    go_ret
    exact ⟨rfl, HB.out.trans (BW.out.mono HB.out.size)⟩
  rw [ok2]
  obtain ⟨k0, k1, k2, k3⟩ := row_cells PA.out
  go_wp2_with fail
  clear k0 k1 k2 k3
  obtain ⟨X, hX⟩ : ∃ X, keyB K1 N1 f1 D1.length D1 = X := ⟨_, rfl⟩
  obtain ⟨Y, hY⟩ : ∃ Y, keyB K2 N2 f2 D2.length D2 = Y := ⟨_, rfl⟩
  have bX := hid (keyB_bd hX B1.out (by omega)).1
  have bY := hid (keyB_bd hY B2.out (by omega)).1
  have lX : X.length ≤ 41 := by rw [← hX]; exact keyB_len rfl
  have CMP := hid (keyB_cmp K1 N1 K2 N2 f1 f2 D1.length D2.length D1 D2 ok1 ok2 rfl rfl hN1.1 hN1.2 hN2.1 hN2.2 hf1 hf2)
  obtain ⟨F, hKB, hF⟩ := key_back (zs := D1) ok1 rfl hN1 hf1
  rw [hX] at hKB
  rw [hX, hY] at CMP
  have HKB := hid hKB
  have EF := hid hF
  have i1 := impl_KeyBytes K1 N1 f1 c1 NA.out RA.out (by omega) hN1.1 hN1.2 hf1
  rw [hX] at i1
  have HY := hid hY
  clear hX hY hKB hF ok1 ok2
  refine i1.mono ?_
  rintro e w6 ⟨v, rfl, o, b⟩
  obtain ⟨aX, cX, rfl, rX, _, _⟩ := Reads.place o bX.out
  have lcX := own_le o
  have QX := hid rX
  replace PA := hid ((b.block w1.heap.size (blk PA.out)).trans PA.out)
  replace PB := hid ((b.block (w1.heap.size + 1) (blk PB.out)).trans PB.out)
  replace RA := hid (RA.out.below b (Nat.le_refl _))
  replace RB := hid (RB.out.below b (Nat.le_refl _))
  replace BW := hid (BW.out.trans (b.mono BW.out.size))
  clear b o rX i1
  obtain ⟨k0, k1, k2, k3⟩ := row_cells PB.out
  go_wp2_with fail
  clear k0 k1 k2 k3
  have i2 := impl_KeyBytes K2 N2 f2 c2 NB.out RB.out (by omega) hN2.1 hN2.2 hf2
  rw [HY.out] at i2
  clear HY
  refine i2.mono ?_
  rintro e w7 ⟨v, rfl, o, b⟩
  obtain ⟨aY, cY, rfl, rY, _, _⟩ := Reads.place o bY.out
  have QY := hid rY
  replace PA := hid ((b.block w1.heap.size (blk PA.out)).trans PA.out)
  replace PB := hid ((b.block (w1.heap.size + 1) (blk PB.out)).trans PB.out)
  replace RA := hid (RA.out.below b (Nat.le_refl _))
  replace RB := hid (RB.out.below b (Nat.le_refl _))
  replace QX := hid (QX.out.below b (Nat.le_refl _))
  replace BW := hid (BW.out.trans (b.mono BW.out.size))
  clear b o rY i2
  go_wp2_with fail
  refine (impl_KeyRead cX lcX QX.out (by omega) HKB.out).mono ?_
  rintro e w8 ⟨f5, v, rfl, hf5, S5, o, b⟩
  obtain ⟨a5, c5, rfl, r5, _⟩ := Reads.own o B1.out
  have hs5 := fun w a m => run_store Try.prog w a (.float .f64 f5) m rfl
  have R5 := hid r5
  replace PA := hid ((b.block w1.heap.size (blk PA.out)).trans PA.out)
  replace PB := hid ((b.block (w1.heap.size + 1) (blk PB.out)).trans PB.out)
  replace RA := hid (RA.out.below b (Nat.le_refl _))
  replace RB := hid (RB.out.below b (Nat.le_refl _))
  replace QX := hid (QX.out.below b (Nat.le_refl _))
  replace QY := hid (QY.out.below b (Nat.le_refl _))
  replace BW := hid (BW.out.trans (b.mono BW.out.size))
  clear b o r5
  have bA := Below.alloc1 w8 (.cells #[.int .i64 K1, .int .i64 N1, .float .f64 f5, .slice a5 D1.length c5] 26)
  have P5 := hid (heap_alloc_new w8 (.cells #[.int .i64 K1, .int .i64 N1, .float .f64 f5, .slice a5 D1.length c5] 26))
  replace PA := hid ((bA.block w1.heap.size (blk PA.out)).trans PA.out)
  replace PB := hid ((bA.block (w1.heap.size + 1) (blk PB.out)).trans PB.out)
  replace RA := hid (RA.out.below bA (Nat.le_refl _))
  replace RB := hid (RB.out.below bA (Nat.le_refl _))
  replace QX := hid (QX.out.below bA (Nat.le_refl _))
  replace QY := hid (QY.out.below bA (Nat.le_refl _))
  replace R5 := hid (R5.out.below bA (Nat.le_refl _))
  replace BW := hid (BW.out.trans (bA.mono BW.out.size))
  clear bA
  obtain ⟨k0, k1, k2, k3⟩ := row_cells PA.out
  go_wp2_with fail
  clear k0 k1 k2 k3
  generalize w8.alloc (.cells #[.int .i64 K1, .int .i64 N1, .float .f64 f5, .slice a5 D1.length c5] 26) = U8 at *
  generalize w8.heap.size = q8 at *
  clear P5
  have sm := law_same K1 N1 K1 N1 f5 f1 c5 c1 hf5 hf1 R5.out RA.out
  rw [decide_eq_true ⟨rfl, rfl, by rw [fbits_sm S5.out, EF.out], rfl⟩] at sm
  refine sm.mono ?_
  rintro e w9 ⟨rfl, b⟩
  replace PA := hid ((b.block w1.heap.size (blk PA.out)).trans PA.out)
  replace PB := hid ((b.block (w1.heap.size + 1) (blk PB.out)).trans PB.out)
  replace RA := hid (RA.out.below b (Nat.le_refl _))
  replace RB := hid (RB.out.below b (Nat.le_refl _))
  replace QX := hid (QX.out.below b (Nat.le_refl _))
  replace QY := hid (QY.out.below b (Nat.le_refl _))
  replace R5 := hid (R5.out.below b (Nat.le_refl _))
  replace BW := hid (BW.out.trans (b.mono BW.out.size))
  clear b sm R5 S5 EF
  have sx := QX.out.str cX 22 Try.underlying22 Try.underlying5 Try.underlying9
  have sy := QY.out.str cY 22 Try.underlying22 Try.underlying5 Try.underlying9
  have e1 := less_txt X Y bX.out bY.out
  have e2 := eq_txt X Y bX.out bY.out
  rw [← str_list, ← str_list] at e1 e2
  have hr := txt_range X Y
  obtain ⟨t, ht⟩ : ∃ t, txt X Y = t := ⟨_, rfl⟩
  rw [ht] at e1 e2 hr CMP
  clear ht
  generalize str X = s at *
  generalize str Y = s' at *
  go_upto_if 61 with fail
  go_cut [9] (fun s9 wx => s9 = .int .i64 (if t = -1 then -1 else 0) ∧ wx = w9)
  case first =>
    rcases hr with rfl | rfl | rfl
    all_goals
      go_wp2_with fail
      go_meet
      exact ⟨by first | rfl | simp, rfl⟩
  case rest =>
  obtain ⟨rfl, rfl⟩ := hcut
  go_upto_if 66 with fail
  go_cut [9] (fun s9 wx => s9 = .int .i64 t ∧ wx = wc)
  case first =>
    rcases hr with rfl | rfl | rfl
    all_goals
      go_wp2_with fail
      go_meet
      exact ⟨by first | rfl | simp, rfl⟩
  case rest =>
  obtain ⟨rfl, rfl⟩ := hcut
  clear sx sy e1 e2 hr QX QY bX bY lcX lX HKB
  go_wp2_with fail
  refine (drawVal cap (RZ.out.below BW.out (Nat.le_refl _)) hn).mono ?_
  rintro e w10 ⟨K6, N6, f6, a6, n6, c6, D6, rfl, I6, b⟩
  replace PA := hid ((b.block w1.heap.size (blk PA.out)).trans PA.out)
  replace PB := hid ((b.block (w1.heap.size + 1) (blk PB.out)).trans PB.out)
  replace RA := hid (RA.out.below b (Nat.le_refl _))
  replace RB := hid (RB.out.below b (Nat.le_refl _))
  replace BW := hid (BW.out.trans (b.mono BW.out.size))
  have hs6 := fun w a m => run_store Try.prog w a (.float .f64 f6) m rfl
  have J6 := hid I6
  clear b I6
  have bA := Below.alloc1 w10 (.cells #[.int .i64 K6, .int .i64 N6, .float .f64 f6, .slice a6 n6 c6] 26)
  have P6 := hid (heap_alloc_new w10 (.cells #[.int .i64 K6, .int .i64 N6, .float .f64 f6, .slice a6 n6 c6] 26))
  replace PA := hid ((bA.block w1.heap.size (blk PA.out)).trans PA.out)
  replace PB := hid ((bA.block (w1.heap.size + 1) (blk PB.out)).trans PB.out)
  replace RA := hid (RA.out.below bA (Nat.le_refl _))
  replace RB := hid (RB.out.below bA (Nat.le_refl _))
  replace J6 := hid (J6.out.below bA (Nat.le_refl _))
  replace BW := hid (BW.out.trans (bA.mono BW.out.size))
  clear bA
  go_wp2_with fail
  generalize w10.alloc (.cells #[.int .i64 K6, .int .i64 N6, .float .f64 f6, .slice a6 n6 c6] 26) = U10 at *
  generalize w10.heap.size = q6 at *
  have hf6 := J6.out.f0
  have m6 := J6.out.m0
  have hN6 : -9223372036854775808 ≤ N6 ∧ N6 ≤ 9223372036854775807 := ⟨J6.out.n0, J6.out.n1⟩
  refine (spec_ItemOk K6 N6 f6 a6 n6 c6 hf6 (by omega) _).mono ?_
  rintro e w11 ⟨rfl, b⟩
  replace PA := hid ((b.block w1.heap.size (blk PA.out)).trans PA.out)
  replace PB := hid ((b.block (w1.heap.size + 1) (blk PB.out)).trans PB.out)
  replace P6 := hid ((b.block q6 (blk P6.out)).trans P6.out)
  replace RA := hid (RA.out.below b (Nat.le_refl _))
  replace RB := hid (RB.out.below b (Nat.le_refl _))
  replace J6 := hid (J6.out.below b (Nat.le_refl _))
  replace BW := hid (BW.out.trans (b.mono BW.out.size))
  clear b
  by_cases ok6 : okI K6 N6 f6 n6 = true
  case neg =>
    rw [show okI K6 N6 f6 n6 = false by simpa using ok6]
    clear ok6
    obtain ⟨l0, l1, l2, l3⟩ := row_cells P6.out
    obtain ⟨k0, k1, k2, k3⟩ := row_cells PA.out
    obtain ⟨j0, j1, j2, j3⟩ := row_cells PB.out
    go_wp2_with fail
    clear l0 l1 l2 l3 k0 k1 k2 k3 j0 j1 j2 j3
    have ic := impl_ItemCompare K1 N1 K2 N2 f1 f2 c1 c2 hf1 hf2 RA.out RB.out (by omega) (by omega)
    rw [← CMP.out] at ic
    refine ic.mono ?_
    rintro e w12 ⟨rfl, b⟩
    replace PA := hid ((b.block w1.heap.size (blk PA.out)).trans PA.out)
    replace PB := hid ((b.block (w1.heap.size + 1) (blk PB.out)).trans PB.out)
    replace P6 := hid ((b.block q6 (blk P6.out)).trans P6.out)
    replace RA := hid (RA.out.below b (Nat.le_refl _))
    replace RB := hid (RB.out.below b (Nat.le_refl _))
    replace J6 := hid (J6.out.below b (Nat.le_refl _))
    replace BW := hid (BW.out.trans (b.mono BW.out.size))
    clear b ic
    have qt : (t == t) = true := by simp
    go_wp2_with fail
    go_ret
    exact ⟨rfl, HB.out.trans (BW.out.mono HB.out.size)⟩
  rw [ok6]
  by_cases k60 : K6 = 0
  case pos =>
    subst k60
    clear ok6
    obtain ⟨l0, l1, l2, l3⟩ := row_cells P6.out
    obtain ⟨k0, k1, k2, k3⟩ := row_cells PA.out
    obtain ⟨j0, j1, j2, j3⟩ := row_cells PB.out
    go_wp2_with fail
    clear l0 l1 l2 l3 k0 k1 k2 k3 j0 j1 j2 j3
    have ic := impl_ItemCompare K1 N1 K2 N2 f1 f2 c1 c2 hf1 hf2 RA.out RB.out (by omega) (by omega)
    rw [← CMP.out] at ic
    refine ic.mono ?_
    rintro e w12 ⟨rfl, b⟩
    replace PA := hid ((b.block w1.heap.size (blk PA.out)).trans PA.out)
    replace PB := hid ((b.block (w1.heap.size + 1) (blk PB.out)).trans PB.out)
    replace P6 := hid ((b.block q6 (blk P6.out)).trans P6.out)
    replace RA := hid (RA.out.below b (Nat.le_refl _))
    replace RB := hid (RB.out.below b (Nat.le_refl _))
    replace J6 := hid (J6.out.below b (Nat.le_refl _))
    replace BW := hid (BW.out.trans (b.mono BW.out.size))
    clear b ic
    have qt : (t == t) = true := by simp
    go_wp2_with fail
    go_ret
    exact ⟨rfl, HB.out.trans (BW.out.mono HB.out.size)⟩
  have qk : (K6 == 0) = false := beq_eq_false_iff_ne.2 k60
  have ly6 := J6.out.rd.len
  obtain ⟨G, hVB, hG⟩ := val_back (zs := D6) ok6 k60 ly6 hN6 hf6
  have bV := (valB_bd (K := K6) (N := N6) (f := f6) (n := n6) (zs := D6) rfl J6.out.rd.bd (by omega)).1
  have lV : (valB K6 N6 f6 n6 D6).length ≤ 41 := valB_len ly6
  have i6 := impl_ValueBytes K6 N6 f6 c6 J6.out.nl J6.out.rd (by omega) hN6.1 hN6.2 hf6
  generalize valB K6 N6 f6 n6 D6 = V at *
  have HVB := hid hVB
  have EG := hid hG
  have BV := hid bV
  have LY := hid ly6
  clear hVB hG bV ly6 ok6 k60
  obtain ⟨l0, l1, l2, l3⟩ := row_cells P6.out
  go_wp2_with fail
  clear l0 l1 l2 l3
  refine i6.mono ?_
  rintro e w12 ⟨v, rfl, o, b⟩
  obtain ⟨aV, cV, rfl, rV, _, _⟩ := Reads.place o BV.out
  have lcV := own_le o
  have QV := hid rV
  replace PA := hid ((b.block w1.heap.size (blk PA.out)).trans PA.out)
  replace PB := hid ((b.block (w1.heap.size + 1) (blk PB.out)).trans PB.out)
  replace P6 := hid ((b.block q6 (blk P6.out)).trans P6.out)
  replace RA := hid (RA.out.below b (Nat.le_refl _))
  replace RB := hid (RB.out.below b (Nat.le_refl _))
  replace J6 := hid (J6.out.below b (Nat.le_refl _))
  replace BW := hid (BW.out.trans (b.mono BW.out.size))
  clear b o rV i6 qk
  go_wp2_with fail
  refine (impl_ValueRead cV lcV QV.out (by omega) HVB.out).mono ?_
  rintro e w13 ⟨f7, v, rfl, hf7, S7, o, b⟩
  obtain ⟨a7, c7, rfl, r7, _⟩ := Reads.own o J6.out.rd.bd
  have hs7 := fun w a m => run_store Try.prog w a (.float .f64 f7) m rfl
  have R7 := hid r7
  replace PA := hid ((b.block w1.heap.size (blk PA.out)).trans PA.out)
  replace PB := hid ((b.block (w1.heap.size + 1) (blk PB.out)).trans PB.out)
  replace P6 := hid ((b.block q6 (blk P6.out)).trans P6.out)
  replace RA := hid (RA.out.below b (Nat.le_refl _))
  replace RB := hid (RB.out.below b (Nat.le_refl _))
  replace J6 := hid (J6.out.below b (Nat.le_refl _))
  replace QV := hid (QV.out.below b (Nat.le_refl _))
  replace BW := hid (BW.out.trans (b.mono BW.out.size))
  clear b o r7
  have bA := Below.alloc1 w13 (.cells #[.int .i64 K6, .int .i64 N6, .float .f64 f7, .slice a7 D6.length c7] 26)
  have P7 := hid (heap_alloc_new w13 (.cells #[.int .i64 K6, .int .i64 N6, .float .f64 f7, .slice a7 D6.length c7] 26))
  replace PA := hid ((bA.block w1.heap.size (blk PA.out)).trans PA.out)
  replace PB := hid ((bA.block (w1.heap.size + 1) (blk PB.out)).trans PB.out)
  replace P6 := hid ((bA.block q6 (blk P6.out)).trans P6.out)
  replace RA := hid (RA.out.below bA (Nat.le_refl _))
  replace RB := hid (RB.out.below bA (Nat.le_refl _))
  replace J6 := hid (J6.out.below bA (Nat.le_refl _))
  replace QV := hid (QV.out.below bA (Nat.le_refl _))
  replace R7 := hid (R7.out.below bA (Nat.le_refl _))
  replace BW := hid (BW.out.trans (bA.mono BW.out.size))
  clear bA QV
  have hneg := fun w => neg_run 0 9223372036854775808 (by rfl) w
  go_wp2_with fail
  generalize w13.alloc (.cells #[.int .i64 K6, .int .i64 N6, .float .f64 f7, .slice a7 D6.length c7] 26) = U13 at *
  generalize w13.heap.size = q7 at *
  clear hneg
  obtain ⟨E, hNB, hE⟩ := val_back (K := 2) (N := 0) (f := 9223372036854775808) (n := 0) (zs := []) (by decide) (by omega) rfl (by omega) (by omega)
  have bN := (valB_bd (K := 2) (N := 0) (f := 9223372036854775808) (n := 0) (zs := []) rfl (by simp) (by simp)).1
  have lN : (valB 2 0 9223372036854775808 0 []).length ≤ 41 := valB_len rfl
  have i8 := fun W => impl_ValueBytes 2 0 9223372036854775808 0 (fun _ => rfl) (Reads.zero (w := W) none) (by omega) (by omega) (by omega) (by omega)
  generalize valB 2 0 9223372036854775808 0 [] = M at *
  have HNB := hid hNB
  have EE := hid hE
  have BN := hid bN
  clear hNB hE bN
  refine (i8 _).mono ?_
  rintro e w14 ⟨v, rfl, o, b⟩
  obtain ⟨aM, cM, rfl, rM, _, _⟩ := Reads.place o BN.out
  have lcM := own_le o
  have QM := hid rM
  replace PA := hid ((b.block w1.heap.size (blk PA.out)).trans PA.out)
  replace PB := hid ((b.block (w1.heap.size + 1) (blk PB.out)).trans PB.out)
  replace P6 := hid ((b.block q6 (blk P6.out)).trans P6.out)
  replace P7 := hid ((b.block q7 (blk P7.out)).trans P7.out)
  replace RA := hid (RA.out.below b (Nat.le_refl _))
  replace RB := hid (RB.out.below b (Nat.le_refl _))
  replace J6 := hid (J6.out.below b (Nat.le_refl _))
  replace R7 := hid (R7.out.below b (Nat.le_refl _))
  replace BW := hid (BW.out.trans (b.mono BW.out.size))
  clear b o rM i8
  go_wp2_with fail
  refine (impl_ValueRead cM lcM QM.out (by omega) HNB.out).mono ?_
  rintro e w15 ⟨f8, v, rfl, hf8, S8, o, b⟩
  obtain ⟨a8, c8, rfl, r8, _⟩ := Reads.own o (by simp)
  have hs8 := fun w a m => run_store Try.prog w a (.float .f64 f8) m rfl
  replace PA := hid ((b.block w1.heap.size (blk PA.out)).trans PA.out)
  replace PB := hid ((b.block (w1.heap.size + 1) (blk PB.out)).trans PB.out)
  replace P6 := hid ((b.block q6 (blk P6.out)).trans P6.out)
  replace P7 := hid ((b.block q7 (blk P7.out)).trans P7.out)
  replace RA := hid (RA.out.below b (Nat.le_refl _))
  replace RB := hid (RB.out.below b (Nat.le_refl _))
  replace J6 := hid (J6.out.below b (Nat.le_refl _))
  replace R7 := hid (R7.out.below b (Nat.le_refl _))
  replace QM := hid (QM.out.below b (Nat.le_refl _))
  replace BW := hid (BW.out.trans (b.mono BW.out.size))
  clear b o r8
  have bA := Below.alloc1 w15 (.cells #[.int .i64 2, .int .i64 0, .float .f64 f8, .slice a8 0 c8] 26)
  have P8 := hid (heap_alloc_new w15 (.cells #[.int .i64 2, .int .i64 0, .float .f64 f8, .slice a8 0 c8] 26))
  replace PA := hid ((bA.block w1.heap.size (blk PA.out)).trans PA.out)
  replace PB := hid ((bA.block (w1.heap.size + 1) (blk PB.out)).trans PB.out)
  replace P6 := hid ((bA.block q6 (blk P6.out)).trans P6.out)
  replace P7 := hid ((bA.block q7 (blk P7.out)).trans P7.out)
  replace RA := hid (RA.out.below bA (Nat.le_refl _))
  replace RB := hid (RB.out.below bA (Nat.le_refl _))
  replace J6 := hid (J6.out.below bA (Nat.le_refl _))
  replace R7 := hid (R7.out.below bA (Nat.le_refl _))
  replace QM := hid (QM.out.below bA (Nat.le_refl _))
  replace BW := hid (BW.out.trans (bA.mono BW.out.size))
  clear bA QM
  obtain ⟨k0, k1, k2, k3⟩ := row_cells PA.out
  obtain ⟨j0, j1, j2, j3⟩ := row_cells PB.out
  go_wp2_with fail
  clear k0 k1 k2 k3 j0 j1 j2 j3
  generalize w15.alloc (.cells #[.int .i64 2, .int .i64 0, .float .f64 f8, .slice a8 0 c8] 26) = U15 at *
  generalize w15.heap.size = q8 at *
  have ic := impl_ItemCompare K1 N1 K2 N2 f1 f2 c1 c2 hf1 hf2 RA.out RB.out (by omega) (by omega)
  rw [← CMP.out] at ic
  refine ic.mono ?_
  rintro e w16 ⟨rfl, b⟩
  replace PA := hid ((b.block w1.heap.size (blk PA.out)).trans PA.out)
  replace PB := hid ((b.block (w1.heap.size + 1) (blk PB.out)).trans PB.out)
  replace P6 := hid ((b.block q6 (blk P6.out)).trans P6.out)
  replace P7 := hid ((b.block q7 (blk P7.out)).trans P7.out)
  replace P8 := hid ((b.block q8 (blk P8.out)).trans P8.out)
  replace RA := hid (RA.out.below b (Nat.le_refl _))
  replace RB := hid (RB.out.below b (Nat.le_refl _))
  replace J6 := hid (J6.out.below b (Nat.le_refl _))
  replace R7 := hid (R7.out.below b (Nat.le_refl _))
  replace BW := hid (BW.out.trans (b.mono BW.out.size))
  clear b ic
  obtain ⟨k0, k1, k2, k3⟩ := row_cells P7.out
  obtain ⟨j0, j1, j2, j3⟩ := row_cells P6.out
  have qt : (t == t) = true := by simp
  go_wp2_with fail
  clear k0 k1 k2 k3 j0 j1 j2 j3
  have sm := law_same K6 N6 K6 N6 f7 f6 c7 c6 hf7 hf6 R7.out J6.out.rd
  rw [decide_eq_true ⟨rfl, rfl, by rw [fbits_sm S7.out, EG.out], rfl⟩] at sm
  refine sm.mono ?_
  rintro e w17 ⟨rfl, b⟩
  replace PA := hid ((b.block w1.heap.size (blk PA.out)).trans PA.out)
  replace PB := hid ((b.block (w1.heap.size + 1) (blk PB.out)).trans PB.out)
  replace P6 := hid ((b.block q6 (blk P6.out)).trans P6.out)
  replace P7 := hid ((b.block q7 (blk P7.out)).trans P7.out)
  replace P8 := hid ((b.block q8 (blk P8.out)).trans P8.out)
  replace RA := hid (RA.out.below b (Nat.le_refl _))
  replace RB := hid (RB.out.below b (Nat.le_refl _))
  replace J6 := hid (J6.out.below b (Nat.le_refl _))
  replace R7 := hid (R7.out.below b (Nat.le_refl _))
  replace BW := hid (BW.out.trans (b.mono BW.out.size))
  clear b sm
  obtain ⟨k0, k1, k2, k3⟩ := row_cells P8.out
  go_wp2_with fail
  clear k0 k1 k2 k3
  have eb : fbits f8 = 9223372036854775808 := by rw [fbits_sm S8.out, EE.out]; decide
  have fb := spec_FloatBits f8 hf8
  rw [eb] at fb
  refine (fb _).mono ?_
  rintro e w18 ⟨rfl, hw18⟩
  subst w18
  go_wp2_with fail
  go_ret
  exact ⟨rfl, HB.out.trans (BW.out.mono HB.out.size)⟩
end Go.Proofs.Ytlapfmfaammheaa
