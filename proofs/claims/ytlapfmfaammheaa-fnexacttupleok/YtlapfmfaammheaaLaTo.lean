/- FnExactTupleOk's walk. -/
import Derived.Test.YtlapfmfaammheaaTt
import Derived.Test.YtlapfmfaammheaaTl
import Derived.Test.YtlapfmfaammheaaNzt
import Derived.Test.YtlapfmfaammheaaRk3
namespace Go.Proofs.Ytlapfmfaammheaa
open Go.RowKit
set_option maxRecDepth 100000

set_option maxHeartbeats 12800000 in
theorem exactTupleOk (A B K N : Int) (f : Nat) {ad : Option Addr} {n : Nat} (cap : Nat) (L M : Int) (h : Nat) {ad' : Option Addr} {m : Nat} (cap' : Nat) {zs ys : List Int} {w : World} (rk : Reads w ad n zs) (rv : Reads w ad' m ys) (hn0 : n ≤ maxLen) (hm0 : m ≤ maxLen) (hf : f < 18446744073709551616) (hh : h < 18446744073709551616) :
    Calls Try.prog 5 #[.agg #[.int .i64 A, .int .i64 B, .int .i64 K, .int .i64 N, .float .f64 f, .slice ad n cap, .int .i64 L, .int .i64 M, .float .f64 h, .slice ad' m cap']] w fun e w' => e = .returned (.bool true) ∧ Below w.heap.size w w' := by
  unfold maxLen at hn0 hm0
  have HA := hid (ArgT.new A B K N f ad n cap L M h ad' m cap' rk rv 49 w.heap.size rfl)
  have HB := hid (Below.alloc1 w (.cells #[.int .i64 A, .int .i64 B, .int .i64 K, .int .i64 N, .float .f64 f, .slice ad n cap, .int .i64 L, .int .i64 M, .float .f64 h, .slice ad' m cap'] 49))
  have Zbd := hid rk.bd
  have Ybd := hid rv.bd
  have hst1 := fun w a m => run_store Try.prog w a (.float .f64 f) m rfl
  have hst2 := fun w a m => run_store Try.prog w a (.float .f64 h) m rfl
  clear rk rv
  go_enter Try.func5, Try.ntmps5
  go_wp2_with fail
  generalize w.alloc (.cells #[.int .i64 A, .int .i64 B, .int .i64 K, .int .i64 N, .float .f64 f, .slice ad n cap, .int .i64 L, .int .i64 M, .float .f64 h, .slice ad' m cap'] 49) = W0 at *
  have HA0 := HA
  have HW := hid (Below.refl W0.heap.size W0)
  refine (szTuple A B K N f ad n cap L M h ad' m cap' 1048576 (by omega) (by omega) (by omega) (by omega) _).mono ?_
  rintro e w1 ⟨rfl, b⟩
  replace HA := hid (HA.out.below b (Nat.le_refl _))
  replace HW := hid (HW.out.trans (b.mono HW.out.size))
  clear b
  obtain ⟨LF, hLF⟩ : ∃ L : Int, lftT 1048576 n m = L := ⟨_, rfl⟩
  rw [hLF]
  by_cases hbig : LF < 0
  · go_wp2_with fail
    go_ret
    exact ⟨rfl, HB.out.trans (HW.out.mono HB.out.size)⟩
  have hn : n ≤ 1048576 := by unfold lftT at hLF; split at hLF <;> omega
  have hm : m ≤ 1048576 := by
    unfold lftT at hLF
    split at hLF
    · omega
    · split at hLF <;> omega
  clear hLF
  obtain ⟨c0, c1, c2, c3, c4, c5, c6, c7, c8, c9⟩ := HA.out.box
  go_wp2_with fail
  clear c0 c1 c2 c3 c4 c5 c6 c7 c8 c9
  clear hbig
  refine (toTuple A B K N f cap L M h cap' HA.out.rk HA.out.rv (by omega) (by omega)).mono ?_
  rintro e w2 ⟨g1, g2, rfl, o1, o2, lt12, b⟩
  obtain ⟨_, _, e1, r, dd, _⟩ := Reads.place o1 Zbd.out
  obtain ⟨rfl, _, rfl⟩ := Value.slice.inj e1
  have Rg1 := hid r
  clear e1 r dd
  obtain ⟨_, _, e1, r, dd, _⟩ := Reads.place o2 Ybd.out
  obtain ⟨rfl, _, rfl⟩ := Value.slice.inj e1
  have Rg2 := hid r
  clear e1 r dd
  clear o1 o2 lt12
  replace HA := hid (HA.out.below b (Nat.le_refl _))
  replace HW := hid (HW.out.trans (b.mono HW.out.size))
  clear b
  go_wp2_with fail
  refine (spec_TupleOk A B K N f _ n n L M h _ m m hf hh (by omega) (by omega) _).mono ?_
  rintro e w3 ⟨rfl, b⟩
  replace HA := hid (HA.out.below b (Nat.le_refl _))
  replace HW := hid (HW.out.trans (b.mono HW.out.size))
  clear b Rg1 Rg2
  obtain ⟨c0, c1, c2, c3, c4, c5, c6, c7, c8, c9⟩ := HA.out.box
  go_wp2_with fail
  clear c0 c1 c2 c3 c4 c5 c6 c7 c8 c9
  refine (toTuple A B K N f cap L M h cap' HA.out.rk HA.out.rv (by omega) (by omega)).mono ?_
  rintro e w4 ⟨x1, x2, rfl, o1, o2, lt12, b⟩
  obtain ⟨_, _, e1, r, dd, _⟩ := Reads.place o1 Zbd.out
  obtain ⟨rfl, _, rfl⟩ := Value.slice.inj e1
  have Rx1 := hid r
  clear e1 r dd
  obtain ⟨_, _, e1, r, dd, _⟩ := Reads.place o2 Ybd.out
  obtain ⟨rfl, _, rfl⟩ := Value.slice.inj e1
  have Rx2 := hid r
  clear e1 r dd
  clear o1 o2 lt12
  replace HA := hid (HA.out.below b (Nat.le_refl _))
  replace HW := hid (HW.out.trans (b.mono HW.out.size))
  clear b
  go_wp2_with fail
  have bM := Below.alloc1 w4 (.cells #[.int .i64 A, .int .i64 B, .int .i64 K, .int .i64 N, .float .f64 f, .slice (some ⟨x1, 0, none⟩) n n, .int .i64 L, .int .i64 M, .float .f64 h, .slice (some ⟨x2, 0, none⟩) m m] 40)
  have HX := hid (ArgT.new A B K N f (some ⟨x1, 0, none⟩) n n L M h (some ⟨x2, 0, none⟩) m m Rx1.out Rx2.out 40 w4.heap.size rfl)
  have S5 := hid (alloc_size w4 (.cells #[.int .i64 A, .int .i64 B, .int .i64 K, .int .i64 N, .float .f64 f, .slice (some ⟨x1, 0, none⟩) n n, .int .i64 L, .int .i64 M, .float .f64 h, .slice (some ⟨x2, 0, none⟩) m m] 40))
  replace HA := hid (HA.out.below bM (Nat.le_refl _))
  replace HW := hid (HW.out.trans (bM.mono HW.out.size))
  clear bM
  generalize w4.alloc (.cells #[.int .i64 A, .int .i64 B, .int .i64 K, .int .i64 N, .float .f64 f, .slice (some ⟨x1, 0, none⟩) n n, .int .i64 L, .int .i64 M, .float .f64 h, .slice (some ⟨x2, 0, none⟩) m m] 40) = t1 at *
  generalize w4.heap.size = GX at *
  refine (impl_TupleOk A B K N f (some ⟨x1, 0, none⟩) n n L M h (some ⟨x2, 0, none⟩) m m hf hh (by omega) (by omega) _).mono ?_
  rintro e w5 ⟨rfl, b⟩
  replace HA := hid (HA.out.below b (Nat.le_refl _))
  replace HX := hid (HX.out.below b (Nat.le_refl _))
  replace HW := hid (HW.out.trans (b.mono HW.out.size))
  clear b
  obtain ⟨ok, hok⟩ : ∃ b, okT A B K N f n L M h m = b := ⟨_, rfl⟩
  rw [hok]
  have hq : (ok != ok) = false := by cases ok <;> rfl
  clear hok
  go_wp2_with fail
  replace HA := hid (HA.out.below ((Still.drew w5).below _) (Nat.le_refl _))
  replace HX := hid (HX.out.below ((Still.drew w5).below _) (Nat.le_refl _))
  replace HW := hid (HW.out.trans (((Still.drew w5).below _).mono HW.out.size))
  refine region_K 99 (fun W => BoxT W w.heap.size A B K N f ad n cap L M h ad' m cap' ∧ BoxT W GX A B K N f (some ⟨x1, 0, none⟩) n n L M h (some ⟨x2, 0, none⟩) m m) (by kernel_rfl) ?_ (fun hHeld => ?_)
  · exact ⟨HA.out.box, HX.out.box⟩
  generalize w5.drew = v0 at *
  refine anyK_take2 (i := 0) (v := ?v1) rfl (by kernel_rfl) (by kernel_rfl) (by kernel_rfl) (by rfl) (fun _ _ _ h => h) (by rfl) hHeld ?hy1 (some 22) (by rfl) ?rest1
  case hy1 => (intro W hSw; obtain ⟨⟨c0, c1, c2, c3, c4, c5, c6, c7, c8, c9⟩, ⟨d0, d1, d2, d3, d4, d5, d6, d7, d8, d9⟩⟩ := hSw; go_simp; (try with_reducible rfl))
  try simp only [Act.put]
  try simp only [List.setIfInBounds_toArray]
  try simp only [List.set_cons_succ, List.set_cons_zero]
  refine anyK_take2 (i := 1) (v := ?v2) rfl (by kernel_rfl) (by kernel_rfl) (by kernel_rfl) (by rfl) (fun _ _ _ h => h) (by rfl) hHeld ?hy2 (some 23) (by rfl) ?rest2
  case hy2 => (intro W hSw; obtain ⟨⟨c0, c1, c2, c3, c4, c5, c6, c7, c8, c9⟩, ⟨d0, d1, d2, d3, d4, d5, d6, d7, d8, d9⟩⟩ := hSw; go_simp; (try with_reducible rfl))
  try simp only [Act.put]
  try simp only [List.setIfInBounds_toArray]
  try simp only [List.set_cons_succ, List.set_cons_zero]
  refine anyK_step (i := 2) (by kernel_rfl) rfl (fun KP hK => ?_)
  go_simp
  refine (toTuple A B K N f cap L M h cap' HA.out.rk HA.out.rv (by omega) (by omega)).mono ?_
  rintro e v1 ⟨y1, y2, rfl, o1, o2, lt12, b⟩
  obtain ⟨_, _, e1, r, dd, _⟩ := Reads.place o1 Zbd.out
  obtain ⟨rfl, _, rfl⟩ := Value.slice.inj e1
  have Ry1 := hid r
  clear e1 r dd
  obtain ⟨_, _, e1, r, dd, _⟩ := Reads.place o2 Ybd.out
  obtain ⟨rfl, _, rfl⟩ := Value.slice.inj e1
  have Ry2 := hid r
  clear e1 r dd
  clear o1 o2 lt12
  replace HA := hid (HA.out.below b (Nat.le_refl _))
  replace HX := hid (HX.out.below b (Nat.le_refl _))
  replace HW := hid (HW.out.trans (b.mono HW.out.size))
  clear b
  go_wp2_with fail
  refine hK.out _ _ ?_ (fun hH2 => ?_)
  · exact ⟨HA.out.box, HX.out.box⟩
  clear hK KP hHeld
  have hHeld := hH2
  clear hH2
  try simp only [Act.put]
  try simp only [List.setIfInBounds_toArray]
  try simp only [List.set_cons_succ, List.set_cons_zero]
  refine anyK_step (i := 3) (by kernel_rfl) rfl (fun KP hK => ?_)
  go_simp
  refine (eqTuple A B K N f f n n L M h h m m hf hf hh hh (hid (Same.refl f)) (hid (Same.refl h)) HX.out.rk Ry1.out HX.out.rv Ry2.out (by omega) (by omega)).mono ?_
  rintro e v2 ⟨rfl, b⟩
  replace HA := hid (HA.out.below b (Nat.le_refl _))
  replace HX := hid (HX.out.below b (Nat.le_refl _))
  replace HW := hid (HW.out.trans (b.mono HW.out.size))
  clear b Ry1 Ry2
  go_wp2_with fail
  refine hK.out _ _ ?_ (fun hH2 => ?_)
  · exact ⟨HA.out.box, HX.out.box⟩
  clear hK KP hHeld
  have hHeld := hH2
  clear hH2
  try simp only [Act.put]
  try simp only [List.setIfInBounds_toArray]
  try simp only [List.set_cons_succ, List.set_cons_zero]
  refine anyK_step (i := 4) (by kernel_rfl) rfl (fun KP hK => ?_)
  go_simp
  refine hK.out _ _ ?_ (fun hH2 => ?_)
  · exact ⟨HA.out.box, HX.out.box⟩
  clear hK KP hHeld
  have hHeld := hH2
  clear hH2
  try simp only [Act.put]
  try simp only [List.setIfInBounds_toArray]
  try simp only [List.set_cons_succ, List.set_cons_zero]
  refine anyK_done (by kernel_rfl) ?_ _
  go_wp2_with fail
  go_ret
  exact ⟨rfl, HB.out.trans (HW.out.mono HB.out.size)⟩
end Go.Proofs.Ytlapfmfaammheaa
