/- FnExactTupleBytes' walk. -/
import Derived.Test.YtlapfmfaammheaaTt
import Derived.Test.YtlapfmfaammheaaTbi
import Derived.Test.YtlapfmfaammheaaTpb
import Derived.Test.YtlapfmfaammheaaNzt
import Derived.Test.YtlapfmfaammheaaRk3
namespace Go.Proofs.Ytlapfmfaammheaa
open Go.RowKit
set_option maxRecDepth 100000

set_option maxHeartbeats 12800000 in
theorem exactTupleBytes (A B K N : Int) (f : Nat) {ad : Option Addr} {n : Nat} (cap : Nat) (L M : Int) (h : Nat) {ad' : Option Addr} {m : Nat} (cap' : Nat) {zs ys : List Int} {w : World} (rk : Reads w ad n zs) (rv : Reads w ad' m ys) (hn0 : n ≤ maxLen) (hm0 : m ≤ maxLen) (hf : f < 18446744073709551616) (hh : h < 18446744073709551616) (hN : -9223372036854775808 ≤ N ∧ N ≤ 9223372036854775807) (hM : -9223372036854775808 ≤ M ∧ M ≤ 9223372036854775807) :
    Calls Try.prog 6 #[.agg #[.int .i64 A, .int .i64 B, .int .i64 K, .int .i64 N, .float .f64 f, .slice ad n cap, .int .i64 L, .int .i64 M, .float .f64 h, .slice ad' m cap']] w fun e w' => e = .returned (.bool true) ∧ Below w.heap.size w w' := by
  unfold maxLen at hn0 hm0
  have HA := hid (ArgT.new A B K N f ad n cap L M h ad' m cap' rk rv 49 w.heap.size rfl)
  have HB := hid (Below.alloc1 w (.cells #[.int .i64 A, .int .i64 B, .int .i64 K, .int .i64 N, .float .f64 f, .slice ad n cap, .int .i64 L, .int .i64 M, .float .f64 h, .slice ad' m cap'] 49))
  have Zbd := hid rk.bd
  have Ybd := hid rv.bd
  have hst1 := fun w a m => run_store Try.prog w a (.float .f64 f) m rfl
  have hst2 := fun w a m => run_store Try.prog w a (.float .f64 h) m rfl
  have hlb := bytesT_length (A := A) (B := B) (K := K) (N := N) (f := f) (L := L) (M := M) (h := h) rk.len rv.len
  have hbb := bytesT_bd (A := A) (B := B) (K := K) (N := N) (f := f) (n := n) (L := L) (M := M) (h := h) (m := m) rk.bd rv.bd rk.len rv.len
  obtain ⟨Z, hZ⟩ : ∃ Z, bytesT A B K N f n zs L M h m ys = Z := ⟨_, rfl⟩
  rw [hZ] at hlb hbb
  obtain ⟨Q, hQ⟩ : ∃ Q, Z.length = Q := ⟨_, rfl⟩
  rw [hQ] at hlb
  have HZ := hid hZ
  have HQ := hid hQ
  have HBB := hid hbb
  clear hZ hQ hbb
  clear rk rv
  go_enter Try.func6, Try.ntmps6
  go_wp2_with fail
  generalize w.alloc (.cells #[.int .i64 A, .int .i64 B, .int .i64 K, .int .i64 N, .float .f64 f, .slice ad n cap, .int .i64 L, .int .i64 M, .float .f64 h, .slice ad' m cap'] 49) = W0 at *
  have HA0 := HA
  have HW := hid (Below.refl W0.heap.size W0)
  refine (szTuple A B K N f ad n cap L M h ad' m cap' 1048576 (by omega) (by omega) (by omega) (by omega) _).mono ?_
  rintro e w1 ⟨rfl, b⟩
  replace HA := hid (HA.out.below b (Nat.le_refl _))
  replace HW := hid (HW.out.trans (b.mono HW.out.size))
  clear b
  obtain ⟨LF, hLF⟩ : ∃ L : Int, lftT 1048576 n m = L := ⟨_, rfl⟩
  rw [hLF]
  by_cases hbig : LF < 0
  · go_wp2_with fail
    go_ret
    exact ⟨rfl, HB.out.trans (HW.out.mono HB.out.size)⟩
  have hn : n ≤ 1048576 := by unfold lftT at hLF; split at hLF <;> omega
  have hm : m ≤ 1048576 := by
    unfold lftT at hLF
    split at hLF
    · omega
    · split at hLF <;> omega
  clear hLF
  obtain ⟨c0, c1, c2, c3, c4, c5, c6, c7, c8, c9⟩ := HA.out.box
  go_wp2_with fail
  clear c0 c1 c2 c3 c4 c5 c6 c7 c8 c9
  clear hbig
  refine (toTuple A B K N f cap L M h cap' HA.out.rk HA.out.rv (by omega) (by omega)).mono ?_
  rintro e w2 ⟨g1, g2, rfl, o1, o2, lt12, b⟩
  obtain ⟨_, _, e1, r, dd, _⟩ := Reads.place o1 Zbd.out
  obtain ⟨rfl, _, rfl⟩ := Value.slice.inj e1
  have Rg1 := hid r
  clear e1 r dd
  obtain ⟨_, _, e1, r, dd, _⟩ := Reads.place o2 Ybd.out
  obtain ⟨rfl, _, rfl⟩ := Value.slice.inj e1
  have Rg2 := hid r
  clear e1 r dd
  clear o1 o2 lt12
  replace HA := hid (HA.out.below b (Nat.le_refl _))
  replace HW := hid (HW.out.trans (b.mono HW.out.size))
  clear b
  go_wp2_with fail
  refine (spec_TupleBytes A B K N f n L M h m Rg1.out Rg2.out (fun h => by cases h) (fun h => by cases h) (by omega) (by omega) hN hM hf hh).mono ?_
  rintro e w3 ⟨u0, rfl, o, b⟩
  rw [HZ.out, HQ.out] at o
  obtain ⟨a0, c0', rfl, r, dd0, _⟩ := Reads.place o HBB.out
  have Q0 := hid r
  have D0 := hid dd0
  clear o r dd0 Rg1 Rg2
  replace HA := hid (HA.out.below b (Nat.le_refl _))
  replace HW := hid (HW.out.trans (b.mono HW.out.size))
  have S3 := hid (And.intro HW.out.size b.size)
  clear b
  obtain ⟨c0, c1, c2, c3, c4, c5, c6, c7, c8, c9⟩ := HA.out.box
  go_wp2_with fail
  clear c0 c1 c2 c3 c4 c5 c6 c7 c8 c9
  refine (toTuple A B K N f cap L M h cap' HA.out.rk HA.out.rv (by omega) (by omega)).mono ?_
  rintro e w4 ⟨x1, x2, rfl, o1, o2, lt12, b⟩
  obtain ⟨_, _, e1, r, dd, _⟩ := Reads.place o1 Zbd.out
  obtain ⟨rfl, _, rfl⟩ := Value.slice.inj e1
  have Rx1 := hid r
  have Ox1 := hid o1
  have Dx1 := hid dd
  clear e1 r dd
  obtain ⟨_, _, e1, r, dd, _⟩ := Reads.place o2 Ybd.out
  obtain ⟨rfl, _, rfl⟩ := Value.slice.inj e1
  have Rx2 := hid r
  have Ox2 := hid o2
  have Dx2 := hid dd
  clear e1 r dd
  have Lx := hid lt12
  clear o1 o2 lt12
  replace HA := hid (HA.out.below b (Nat.le_refl _))
  replace Q0 := hid (Q0.out.below b (Nat.le_refl _))
  replace HW := hid (HW.out.trans (b.mono HW.out.size))
  have S4 := hid b.size
  clear b
  go_wp2_with fail
  have bM := Below.alloc1 w4 (.cells #[.int .i64 A, .int .i64 B, .int .i64 K, .int .i64 N, .float .f64 f, .slice (some ⟨x1, 0, none⟩) n n, .int .i64 L, .int .i64 M, .float .f64 h, .slice (some ⟨x2, 0, none⟩) m m] 40)
  have HX := hid (ArgT.new A B K N f (some ⟨x1, 0, none⟩) n n L M h (some ⟨x2, 0, none⟩) m m Rx1.out Rx2.out 40 w4.heap.size rfl)
  have S5 := hid (alloc_size w4 (.cells #[.int .i64 A, .int .i64 B, .int .i64 K, .int .i64 N, .float .f64 f, .slice (some ⟨x1, 0, none⟩) n n, .int .i64 L, .int .i64 M, .float .f64 h, .slice (some ⟨x2, 0, none⟩) m m] 40))
  replace HA := hid (HA.out.below bM (Nat.le_refl _))
  replace Q0 := hid (Q0.out.below bM (Nat.le_refl _))
  replace Ox1 := hid (owns_below bM (Nat.le_refl _) Ox1.out)
  replace Ox2 := hid (owns_below bM (Nat.le_refl _) Ox2.out)
  replace Rx1 := hid (Rx1.out.below bM (Nat.le_refl _))
  replace Rx2 := hid (Rx2.out.below bM (Nat.le_refl _))
  replace HW := hid (HW.out.trans (bM.mono HW.out.size))
  clear bM
  generalize w4.alloc (.cells #[.int .i64 A, .int .i64 B, .int .i64 K, .int .i64 N, .float .f64 f, .slice (some ⟨x1, 0, none⟩) n n, .int .i64 L, .int .i64 M, .float .f64 h, .slice (some ⟨x2, 0, none⟩) m m] 40) = t1 at *
  generalize w4.heap.size = GX at *
  refine (impl_TupleBytes A B K N f n L M h m Rx1.out Rx2.out (fun h => by cases h) (fun h => by cases h) (by omega) (by omega) hN hM hf hh).mono ?_
  rintro e w5 ⟨u1, rfl, o, b⟩
  rw [HZ.out, HQ.out] at o
  obtain ⟨a1, c1', rfl, r, dd1, _⟩ := Reads.place o HBB.out
  have Q1 := hid r
  have O1 := hid o
  have D1 := hid dd1
  clear o r dd1
  replace HA := hid (HA.out.below b (Nat.le_refl _))
  replace Q0 := hid (Q0.out.below b (Nat.le_refl _))
  replace Ox1 := hid (owns_below b (Nat.le_refl _) Ox1.out)
  replace Ox2 := hid (owns_below b (Nat.le_refl _) Ox2.out)
  replace Rx1 := hid (Rx1.out.below b (Nat.le_refl _))
  replace Rx2 := hid (Rx2.out.below b (Nat.le_refl _))
  replace HX := hid (HX.out.below b (Nat.le_refl _))
  replace HW := hid (HW.out.trans (b.mono HW.out.size))
  have S6 := hid b.size
  clear b Rx1 Rx2
  go_wp2_with fail
  refine (eqByteS_any c1' c0' Q1.out Q0.out (by omega)).mono ?_
  rintro e w6 ⟨rfl, s⟩
  have b := s.below w5.heap.size
  replace HA := hid (HA.out.below b (Nat.le_refl _))
  replace Q0 := hid (Q0.out.below b (Nat.le_refl _))
  replace Ox1 := hid (owns_below b (Nat.le_refl _) Ox1.out)
  replace Ox2 := hid (owns_below b (Nat.le_refl _) Ox2.out)
  replace HX := hid (HX.out.below b (Nat.le_refl _))
  replace Q1 := hid (Q1.out.below b (Nat.le_refl _))
  replace O1 := hid (owns_below b (Nat.le_refl _) O1.out)
  replace HW := hid (HW.out.trans (b.mono HW.out.size))
  clear b s
  go_wp2_with fail
  replace HA := hid (HA.out.below ((Still.drew w6).below _) (Nat.le_refl _))
  replace Q0 := hid (Q0.out.below ((Still.drew w6).below _) (Nat.le_refl _))
  replace Ox1 := hid (owns_below ((Still.drew w6).below _) (Nat.le_refl _) Ox1.out)
  replace Ox2 := hid (owns_below ((Still.drew w6).below _) (Nat.le_refl _) Ox2.out)
  replace HX := hid (HX.out.below ((Still.drew w6).below _) (Nat.le_refl _))
  replace Q1 := hid (Q1.out.below ((Still.drew w6).below _) (Nat.le_refl _))
  replace O1 := hid (owns_below ((Still.drew w6).below _) (Nat.le_refl _) O1.out)
  replace HW := hid (HW.out.trans (((Still.drew w6).below _).mono HW.out.size))
  refine region_K 99 (fun W => BoxT W w.heap.size A B K N f ad n cap L M h ad' m cap' ∧ BoxT W GX A B K N f (some ⟨x1, 0, none⟩) n n L M h (some ⟨x2, 0, none⟩) m m) (by kernel_rfl) ?_ (fun hHeld => ?_)
  · exact ⟨HA.out.box, HX.out.box⟩
  generalize w6.drew = v0 at *
  refine anyK_take2 (i := 0) (v := ?v3) rfl (by kernel_rfl) (by kernel_rfl) (by kernel_rfl) (by rfl) (fun _ _ _ h => h) (by rfl) hHeld ?hy3 (some 27) (by rfl) ?rest3
  case hy3 => (intro W hSw; obtain ⟨⟨c0, c1, c2, c3, c4, c5, c6, c7, c8, c9⟩, ⟨d0, d1, d2, d3, d4, d5, d6, d7, d8, d9⟩⟩ := hSw; go_simp; (try with_reducible rfl))
  try simp only [Act.put]
  try simp only [List.setIfInBounds_toArray]
  try simp only [List.set_cons_succ, List.set_cons_zero]
  refine anyK_take2 (i := 1) (v := ?v4) rfl (by kernel_rfl) (by kernel_rfl) (by kernel_rfl) (by rfl) (fun _ _ _ h => h) (by rfl) hHeld ?hy4 (some 28) (by rfl) ?rest4
  case hy4 => (intro W hSw; obtain ⟨⟨c0, c1, c2, c3, c4, c5, c6, c7, c8, c9⟩, ⟨d0, d1, d2, d3, d4, d5, d6, d7, d8, d9⟩⟩ := hSw; go_simp; (try with_reducible rfl))
  try simp only [Act.put]
  try simp only [List.setIfInBounds_toArray]
  try simp only [List.set_cons_succ, List.set_cons_zero]
  refine anyK_step (i := 2) (by kernel_rfl) rfl (fun KP hK => ?_)
  go_simp
  refine (toTuple A B K N f cap L M h cap' HA.out.rk HA.out.rv (by omega) (by omega)).mono ?_
  rintro e v1 ⟨y1, y2, rfl, o1, o2, lt12, b⟩
  obtain ⟨_, _, e1, r, dd, _⟩ := Reads.place o1 Zbd.out
  obtain ⟨rfl, _, rfl⟩ := Value.slice.inj e1
  have Ry1 := hid r
  clear e1 r dd
  obtain ⟨_, _, e1, r, dd, _⟩ := Reads.place o2 Ybd.out
  obtain ⟨rfl, _, rfl⟩ := Value.slice.inj e1
  have Ry2 := hid r
  clear e1 r dd
  clear o1 o2 lt12
  replace HA := hid (HA.out.below b (Nat.le_refl _))
  replace Q0 := hid (Q0.out.below b (Nat.le_refl _))
  replace Ox1 := hid (owns_below b (Nat.le_refl _) Ox1.out)
  replace Ox2 := hid (owns_below b (Nat.le_refl _) Ox2.out)
  replace HX := hid (HX.out.below b (Nat.le_refl _))
  replace Q1 := hid (Q1.out.below b (Nat.le_refl _))
  replace O1 := hid (owns_below b (Nat.le_refl _) O1.out)
  replace HW := hid (HW.out.trans (b.mono HW.out.size))
  clear b
  go_wp2_with fail
  refine hK.out _ _ ?_ (fun hH2 => ?_)
  · exact ⟨HA.out.box, HX.out.box⟩
  clear hK KP hHeld
  have hHeld := hH2
  clear hH2
  try simp only [Act.put]
  try simp only [List.setIfInBounds_toArray]
  try simp only [List.set_cons_succ, List.set_cons_zero]
  refine anyK_step (i := 3) (by kernel_rfl) rfl (fun KP hK => ?_)
  go_simp
  refine (eqTuple A B K N f f n n L M h h m m hf hf hh hh (hid (Same.refl f)) (hid (Same.refl h)) HX.out.rk Ry1.out HX.out.rv Ry2.out (by omega) (by omega)).mono ?_
  rintro e v2 ⟨rfl, b⟩
  replace HA := hid (HA.out.below b (Nat.le_refl _))
  replace Q0 := hid (Q0.out.below b (Nat.le_refl _))
  replace Ox1 := hid (owns_below b (Nat.le_refl _) Ox1.out)
  replace Ox2 := hid (owns_below b (Nat.le_refl _) Ox2.out)
  replace HX := hid (HX.out.below b (Nat.le_refl _))
  replace Q1 := hid (Q1.out.below b (Nat.le_refl _))
  replace O1 := hid (owns_below b (Nat.le_refl _) O1.out)
  replace HW := hid (HW.out.trans (b.mono HW.out.size))
  clear b Ry1 Ry2
  go_wp2_with fail
  refine hK.out _ _ ?_ (fun hH2 => ?_)
  · exact ⟨HA.out.box, HX.out.box⟩
  clear hK KP hHeld
  have hHeld := hH2
  clear hH2
  try simp only [Act.put]
  try simp only [List.setIfInBounds_toArray]
  try simp only [List.set_cons_succ, List.set_cons_zero]
  refine anyK_step (i := 4) (by kernel_rfl) rfl (fun KP hK => ?_)
  go_simp
  refine hK.out _ _ ?_ (fun hH2 => ?_)
  · exact ⟨HA.out.box, HX.out.box⟩
  clear hK KP hHeld
  have hHeld := hH2
  clear hH2
  try simp only [Act.put]
  try simp only [List.setIfInBounds_toArray]
  try simp only [List.set_cons_succ, List.set_cons_zero]
  refine anyK_done (by kernel_rfl) ?_ _
  obtain ⟨d0, d1, d2, d3, d4, d5, d6, d7, d8, d9⟩ := HX.out.box
  go_wp2_with fail
  clear d0 d1 d2 d3 d4 d5 d6 d7 d8 d9
  refine (markTuple A B K N f L M h 1 (by omega) (by omega) (by omega) (by omega) Ox1.out Ox2.out (.inr (by simp [Value.ownBlock]; have := Lx.out; omega))).mono ?_
  rintro e w9 ⟨rfl, _, _, wm, g8, g9⟩
  have z3 := S3.out
  have z4 := S4.out
  have z5 := S5.out
  have z6 := S6.out
  replace O1 := hid (O1.out.kept g8 (D1.out.own Dx1.out (.inr (by omega))))
  replace Q0 := hid (Q0.out.other g8 (D0.out.ne Dx1.out (.inl (by omega))))
  replace Q1 := hid (Q1.out.other g8 (D1.out.ne Dx1.out (.inr (by omega))))
  replace HW := hid (HW.out.grown g8 HW.out.size (fun k hk => by have := Dx1.out.ge k hk; omega))
  replace O1 := hid (O1.out.kept g9 (D1.out.own Dx2.out (.inr (by omega))))
  replace Q0 := hid (Q0.out.other g9 (D0.out.ne Dx2.out (.inl (by omega))))
  replace Q1 := hid (Q1.out.other g9 (D1.out.ne Dx2.out (.inr (by omega))))
  replace HW := hid (HW.out.grown g9 HW.out.size (fun k hk => by have := Dx2.out.ge k hk; omega))
  replace HA := hid (HA0.out.below HW.out (Nat.le_refl _))
  clear g8 g9 Ox1 Ox2 HX Dx1 Dx2 z3 z4 z5 z6
  have hkk : ¬ (1 + (n : Int) + (m : Int)) < 0 := by omega
  go_wp2_with fail
  refine (eqByteS_any c1' c0' Q1.out Q0.out (by omega)).mono ?_
  rintro e w10 ⟨rfl, s⟩
  have b := s.below w9.heap.size
  replace HA := hid (HA.out.below b (Nat.le_refl _))
  replace Q0 := hid (Q0.out.below b (Nat.le_refl _))
  replace Q1 := hid (Q1.out.below b (Nat.le_refl _))
  replace O1 := hid (owns_below b (Nat.le_refl _) O1.out)
  replace HW := hid (HW.out.trans (b.mono HW.out.size))
  clear b s Q1 hkk
  go_wp2_with fail
  refine (markByteS_any 1 (by omega) (by omega) (by omega) O1.out).mono ?_
  rintro e w11 ⟨rfl, o, g11⟩
  have z3 := S3.out
  have z4 := S4.out
  have z5 := S5.out
  have z6 := S6.out
  obtain ⟨_, _, e1, r, _⟩ := Reads.own o (marks_bd 1 Q)
  obtain ⟨rfl, _, rfl⟩ := Value.slice.inj e1
  have HM := hid r
  replace Q0 := hid (Q0.out.other g11 (D0.out.ne D1.out (.inl (by omega))))
  replace HW := hid (HW.out.grown g11 HW.out.size (fun k hk => by have := D1.out.ge k hk; omega))
  replace HA := hid (HA0.out.below HW.out (Nat.le_refl _))
  clear o e1 r g11 O1 z3 z4 z5 z6
  have hQ0 : ¬ (1 + (Q : Int)) < 0 := by omega
  go_wp2_with fail
  refine (heldByteS_any c1' 1 HM.out (by omega) (by omega) (by omega)).mono ?_
  rintro e w12 ⟨rfl, rfl⟩
  obtain ⟨c0, c1, c2, c3, c4, c5, c6, c7, c8, c9⟩ := HA.out.box
  go_wp2_with fail
  clear c0 c1 c2 c3 c4 c5 c6 c7 c8 c9
  refine (toTuple A B K N f cap L M h cap' HA.out.rk HA.out.rv (by omega) (by omega)).mono ?_
  rintro e w13 ⟨g1, g2, rfl, o1, o2, lt12, b⟩
  obtain ⟨_, _, e1, r, dd, _⟩ := Reads.place o1 Zbd.out
  obtain ⟨rfl, _, rfl⟩ := Value.slice.inj e1
  have Rg1 := hid r
  clear e1 r dd
  obtain ⟨_, _, e1, r, dd, _⟩ := Reads.place o2 Ybd.out
  obtain ⟨rfl, _, rfl⟩ := Value.slice.inj e1
  have Rg2 := hid r
  clear e1 r dd
  clear o1 o2 lt12
  replace HA := hid (HA.out.below b (Nat.le_refl _))
  replace Q0 := hid (Q0.out.below b (Nat.le_refl _))
  replace HM := hid (HM.out.below b (Nat.le_refl _))
  replace HW := hid (HW.out.trans (b.mono HW.out.size))
  clear b
  go_wp2_with fail
  refine (impl_TupleBytes A B K N f n L M h m Rg1.out Rg2.out (fun h => by cases h) (fun h => by cases h) (by omega) (by omega) hN hM hf hh).mono ?_
  rintro e w14 ⟨u2, rfl, o, b⟩
  rw [HZ.out, HQ.out] at o
  obtain ⟨a2, c2', rfl, r, _, _⟩ := Reads.place o HBB.out
  have Q2 := hid r
  clear o r Rg1 Rg2
  replace HA := hid (HA.out.below b (Nat.le_refl _))
  replace Q0 := hid (Q0.out.below b (Nat.le_refl _))
  replace HM := hid (HM.out.below b (Nat.le_refl _))
  replace HW := hid (HW.out.trans (b.mono HW.out.size))
  clear b
  go_wp2_with fail
  refine (eqByteS_any c2' c0' Q2.out Q0.out (by omega)).mono ?_
  rintro e w15 ⟨rfl, s⟩
  have b := s.below w14.heap.size
  replace HA := hid (HA.out.below b (Nat.le_refl _))
  replace Q0 := hid (Q0.out.below b (Nat.le_refl _))
  replace HM := hid (HM.out.below b (Nat.le_refl _))
  replace Q2 := hid (Q2.out.below b (Nat.le_refl _))
  replace HW := hid (HW.out.trans (b.mono HW.out.size))
  clear b s
  go_wp2_with fail
  refine (heldByteS_any c1' 1 HM.out (by omega) (by omega) (by omega)).mono ?_
  rintro e w16 ⟨rfl, rfl⟩
  go_wp2_with fail
  go_ret
  exact ⟨rfl, HB.out.trans (HW.out.mono HB.out.size)⟩
end Go.Proofs.Ytlapfmfaammheaa
