/- The program's way down: how many entries lie ahead, the steps to a leaf. Conditions: texts of at most 2^21 bytes. -/
import Derived.Test.YtphmlndkjgldkaaNb11
import Derived.Test.YtphmlndkjgldkaaMk11
import Derived.Test.YtphmlndkjgldkaaMl11
namespace Go.Proofs.Ytphmlndkjgldkaa
open Go.RowKit
set_option maxRecDepth 100000
set_option maxHeartbeats 3200000 in
theorem impl_ups {w0 : World} (KQ NQ : Int) (FQ : Nat) {aq : Option Addr} {zq : Nat} (cq : Nat) (iq : Int) {ZQ : List Int} (hl : Reads w0 aq zq ZQ) (hh : ZQ.length = zq ∧ FQ < 18446744073709551616 ∧ zq ≤ 2097152) {es : List En} {a : Option Addr} {n : Nat} (c : Nat) {w : World} (hr : ReadsE w0 a es) (hn : es.length = n) (hn4 : n ≤ 4) (hm : ∀ j, (es.getD j en0).Z.length ≤ 2097152) (hw : Below w0.heap.size w0 w) :
 Calls Try.prog 108 #[.slice a n c, .func (.func 114) #[.agg #[.int .i64 KQ, .int .i64 NQ, .float .f64 FQ, .slice aq zq cq, .int .i64 iq]] #[]] w fun e w' => e = .returned (.int .i64 (upsB es ⟨KQ, NQ, FQ, ZQ, iq⟩ : Nat)) ∧ Below w.heap.size w w' := by
 have HL := hid hl
 have HH := hid hh
 have HW := hid hw
 have HN := hid hn
 have HRE := hid hr
 have HM := hid hm
 clear hl hh hw hn hr hm
 go_enter Try.func108, Try.ntmps108
 go_wp2_with fail
 go_loopw [5, 10] (fun t i wr => ∃ k m : Nat, k ≤ n ∧ i = .int .i64 k ∧ t = .int .i64 m ∧ m ≤ k ∧ Hid (m = (es.take k).countP (fun y => !ltE ⟨KQ, NQ, FQ, ZQ, iq⟩ y)) ∧ Hid (Below w.heap.size w wr)) (fun _ i _ => n - (intOf i).toNat)
 case atStart => exact ⟨0, 0, Nat.zero_le _, rfl, rfl, Nat.le_refl _, hid (by simp), hid (Below.refl _ _)⟩
 case round =>
  obtain ⟨k, m, hk, rfl, rfl, hmk, HC, HB⟩ := hrel
  by_cases hlt : k < n
  · have hlt' : (k : Int) < (n : Int) := by omega
    have hk0 : (0 : Int) ≤ (k : Int) := by omega
    have HT := hid (countP_take (fun y => !ltE ⟨KQ, NQ, FQ, ZQ, iq⟩ y) es (k := k) (by rw [HN.out]; exact hlt))
    obtain ⟨b, off, a', c', rfl, bx0, r0, _, _, hf⟩ := HRE.out.at (k := k) (by rw [HN.out]; exact hlt)
    have hmz := HM.out k
    have BW := HW.out.trans (HB.out.mono HW.out.size)
    have bx := bx0.below BW (Nat.le_refl _)
    have HR0 := hid r0
    generalize es.getD k en0 = e at *
    obtain ⟨K, N, F, Z, id⟩ := e
    simp only at bx hmz hf
    have HR1 := hid (show Reads w0 a' Z.length Z from HR0.out)
    obtain ⟨z, hz⟩ : ∃ z, Z.length = z := ⟨_, rfl⟩
    rw [hz] at bx hmz HR1
    have HZ := hid hz
    have hst := fun w a m => run_store Try.prog w a (.float .f64 F) m rfl
    have HBX := hid (Below.alloc1 wr (.cells #[.int .i64 K, .int .i64 N, .float .f64 F, .slice a' z c', .int .i64 id] 35))
    have HBW := hid BW
    obtain ⟨c0, c1, c2, c3, c4⟩ := bx
    clear r0 hz bx0 HR0 BW
    go_wp2_with fail
    clear c0 c1 c2 c3 c4
    refine (impl_notBelow KQ NQ FQ cq iq K N F c' id HH.out.2.1 hf (HL.out.below (HBW.out.trans (HBX.out.mono HBW.out.size)) (Nat.le_refl _)) (HR1.out.below (HBW.out.trans (HBX.out.mono HBW.out.size)) (Nat.le_refl _)) HH.out.2.2 hmz).mono ?_
    rintro e w1 ⟨rfl, b1⟩
    have HEq := hid (show (!ltB (cmpI KQ NQ FQ zq ZQ K N F z Z) iq id) = (!ltE ⟨KQ, NQ, FQ, ZQ, iq⟩ ⟨K, N, F, Z, id⟩) by unfold ltE cmpE; simp only [HH.out.1, HZ.out])
    rw [HEq.out]
    replace HB := hid ((HB.out.trans (HBX.out.mono HB.out.size)).trans (b1.mono (HB.out.trans (HBX.out.mono HB.out.size)).size))
    clear b1 HBX HBW
    clear HEq
    generalize (!ltE ⟨KQ, NQ, FQ, ZQ, iq⟩ ⟨K, N, F, Z, id⟩) = X at *
    cases X with
    | false =>
     go_wp2_with fail
     go_roundw
     case rel => exact ⟨k + 1, m, by omega, by go_num, rfl, by omega, hid (by have := HC.out; rw [HT.out]; simp; omega), HB⟩
     case measure => simp [intOf]; omega
    | true =>
     go_wp2_with fail
     go_roundw
     case rel => exact ⟨k + 1, m + 1, by omega, by go_num, by go_num, by omega, hid (by have := HC.out; rw [HT.out]; simp; omega), HB⟩
     case measure => simp [intOf]; omega
  · obtain rfl : k = n := by omega
    go_wp2_with fail
    go_ret
    refine ⟨?_, HB.out⟩
    have e0 : es.take k = es := List.take_of_length_le (by rw [HN.out]; exact Nat.le_refl _)
    have := HC.out
    rw [e0] at this
    rw [this]
    rfl
set_option maxHeartbeats 1600000 in
theorem impl_placeIn {w0 : World} (KQ NQ : Int) (FQ : Nat) {aq : Option Addr} {zq : Nat} (cq : Nat) (iq : Int) {ZQ : List Int} (hq : Reads w0 aq zq ZQ) (hqq : ZQ.length = zq ∧ FQ < 18446744073709551616 ∧ zq ≤ 2097152) {es : List En} {a : Option Addr} {n : Nat} {c : Nat} {kv : Value} {x : Int} {lf : Bool} {g : Nat} {w : World} (hr : ReadsE w0 a es) (hn : es.length = n) (hn4 : n ≤ 4) (hm : ∀ j, (es.getD j en0).Z.length ≤ 2097152) (hw : Below w0.heap.size w0 w) (hg : w.heap[g]? = some (.cells #[.int .i64 x, .bool lf, .slice a n c, kv] 86)) :
 Calls Try.prog 91 #[.agg #[.int .i64 KQ, .int .i64 NQ, .float .f64 FQ, .slice aq zq cq, .int .i64 iq], .pointer (some ⟨g, 0, none⟩)] w fun e w' => e = .returned (.int .i64 (upsB es ⟨KQ, NQ, FQ, ZQ, iq⟩ : Nat)) ∧ Below w.heap.size w w' := by
 have hst := fun w a m => run_store Try.prog w a (.float .f64 FQ) m rfl
 have HB := hid (Below.alloc1 w (.cells #[.int .i64 KQ, .int .i64 NQ, .float .f64 FQ, .slice aq zq cq, .int .i64 iq] 35))
 have HR0 := hid (heap_alloc_new w (.cells #[.int .i64 KQ, .int .i64 NQ, .float .f64 FQ, .slice aq zq cq, .int .i64 iq] 35))
 have HW := hid hw
 have HG := hid hg
 have hgl : g < w.heap.size := (Array.getElem?_eq_some_iff.1 hg).1
 have HGl := hid (show g < w.heap.size ∧ w.heap.size < (w.alloc (.cells #[.int .i64 KQ, .int .i64 NQ, .float .f64 FQ, .slice aq zq cq, .int .i64 iq] 35)).heap.size by rw [alloc_size]; omega)
 clear hw hg hgl
 go_enter Try.func91, Try.ntmps91
 go_wp2_with fail
 generalize w.alloc (.cells #[.int .i64 KQ, .int .i64 NQ, .float .f64 FQ, .slice aq zq cq, .int .i64 iq] 35) = V at *
 obtain ⟨p0, hp0⟩ : ∃ p0, w.heap.size = p0 := ⟨_, rfl⟩
 have HP0 := hid hp0
 rw [hp0] at HR0
 try simp only [hp0]
 clear hp0
 have HKp := hid (show ∀ W, Below V.heap.size V W → (fun W => W.cell? ⟨p0, 0, none⟩ = some (.int .i64 KQ) ∧ W.cell? ⟨p0, 1, none⟩ = some (.int .i64 NQ) ∧ W.cell? ⟨p0, 2, none⟩ = some (.float .f64 FQ) ∧ W.cell? ⟨p0, 3, none⟩ = some (.slice aq zq cq) ∧ W.cell? ⟨p0, 4, none⟩ = some (.int .i64 iq) ∧ W.cell? ⟨g, 2, none⟩ = some (.slice a n c)) W from fun W b => by
  have z1 := HGl.out
  have z2 := HP0.out
  have r1 : W.heap[p0]? = _ := (b.block p0 (by omega)).trans HR0.out
  have r2 : W.heap[g]? = _ := ((HB.out.trans (b.mono HB.out.size)).block g (by omega)).trans HG.out
  exact ⟨by rw [cell_of_row _ _ _ _ _ _ r1]; rfl, by rw [cell_of_row _ _ _ _ _ _ r1]; rfl, by rw [cell_of_row _ _ _ _ _ _ r1]; rfl, by rw [cell_of_row _ _ _ _ _ _ r1]; rfl, by rw [cell_of_row _ _ _ _ _ _ r1]; rfl, by rw [cell_of_row _ _ _ _ _ _ r2]; rfl⟩)
 have BC := hid ((Still.drew V).below V.heap.size)
 refine region_K 99 (fun W => W.cell? ⟨p0, 0, none⟩ = some (.int .i64 KQ) ∧ W.cell? ⟨p0, 1, none⟩ = some (.int .i64 NQ) ∧ W.cell? ⟨p0, 2, none⟩ = some (.float .f64 FQ) ∧ W.cell? ⟨p0, 3, none⟩ = some (.slice aq zq cq) ∧ W.cell? ⟨p0, 4, none⟩ = some (.int .i64 iq) ∧ W.cell? ⟨g, 2, none⟩ = some (.slice a n c)) (by kernel_rfl) ?_ (fun hHeld => ?_)
 · exact HKp.out _ BC.out
 generalize V.drew = vd at *
 refine anyK_take2 (i := 0) (v := ?v0_1) rfl (by kernel_rfl) (by kernel_rfl) (by kernel_rfl) (by rfl) (fun _ _ _ h => h) (by rfl) hHeld ?hy0_1 (some 5) (by rfl) ?rest0_1
 case hy0_1 => (intro W hSw; obtain ⟨x0, x1, x2, x3, x4, x5⟩ := hSw; go_simp; (try with_reducible rfl))
 try simp only [Act.put, List.setIfInBounds_toArray, List.set_cons_succ, List.set_cons_zero]
 refine anyK_take2 (i := 1) (v := ?v1_2) rfl (by kernel_rfl) (by kernel_rfl) (by kernel_rfl) (by rfl) (fun _ _ _ h => h) (by rfl) hHeld ?hy1_2 (some 6) (by rfl) ?rest1_2
 case hy1_2 => (intro W hSw; obtain ⟨x0, x1, x2, x3, x4, x5⟩ := hSw; go_simp; (try with_reducible rfl))
 try simp only [Act.put, List.setIfInBounds_toArray, List.set_cons_succ, List.set_cons_zero]
 refine anyK_take2 (i := 2) (v := ?v2_3) rfl (by kernel_rfl) (by kernel_rfl) (by kernel_rfl) (by rfl) (fun _ _ _ h => h) (by rfl) hHeld ?hy2_3 (some 7) (by rfl) ?rest2_3
 case hy2_3 => (intro W hSw; obtain ⟨x0, x1, x2, x3, x4, x5⟩ := hSw; go_simp; (try with_reducible rfl))
 try simp only [Act.put, List.setIfInBounds_toArray, List.set_cons_succ, List.set_cons_zero]
 refine anyK_take2 (i := 3) (v := ?v3_4) rfl (by kernel_rfl) (by kernel_rfl) (by kernel_rfl) (by rfl) (fun _ _ _ h => h) (by rfl) hHeld ?hy3_4 (some 8) (by rfl) ?rest3_4
 case hy3_4 => (intro W hSw; obtain ⟨x0, x1, x2, x3, x4, x5⟩ := hSw; go_simp; (try with_reducible rfl))
 try simp only [Act.put, List.setIfInBounds_toArray, List.set_cons_succ, List.set_cons_zero]
 refine anyK_take2 (i := 4) (v := ?v4_5) rfl (by kernel_rfl) (by kernel_rfl) (by kernel_rfl) (by rfl) (fun _ _ _ h => h) (by rfl) hHeld ?hy4_5 (some 9) (by rfl) ?rest4_5
 case hy4_5 => (intro W hSw; obtain ⟨x0, x1, x2, x3, x4, x5⟩ := hSw; go_simp; (try with_reducible rfl))
 try simp only [Act.put, List.setIfInBounds_toArray, List.set_cons_succ, List.set_cons_zero]
 refine anyK_take2 (i := 5) (v := ?v5_6) rfl (by kernel_rfl) (by kernel_rfl) (by kernel_rfl) (by rfl) (fun _ _ _ h => h) (by rfl) hHeld ?hy5_6 (some 10) (by rfl) ?rest5_6
 case hy5_6 => (intro W hSw; obtain ⟨x0, x1, x2, x3, x4, x5⟩ := hSw; go_simp; (try with_reducible rfl))
 try simp only [Act.put, List.setIfInBounds_toArray, List.set_cons_succ, List.set_cons_zero]
 refine anyK_step (i := 6) (by kernel_rfl) rfl (fun KP hK => ?_)
 go_simp
 refine (impl_ups KQ NQ FQ cq iq hq hqq c hr hn hn4 hm (HW.out.trans ((HB.out.trans (BC.out.mono HB.out.size)).mono HW.out.size))).mono ?_
 rintro e v1 ⟨rfl, b⟩
 replace BC := hid (BC.out.trans (b.mono BC.out.size))
 clear b
 clear hHeld
 refine hK.out _ _ (HKp.out _ BC.out) (fun hHeld => ?_)
 clear hK KP
 try simp only [Act.put, List.setIfInBounds_toArray, List.set_cons_succ, List.set_cons_zero]
 refine anyK_take2 (i := 7) (v := ?v7_7) rfl (by kernel_rfl) (by kernel_rfl) (by kernel_rfl) (by rfl) (fun _ _ _ h => h) (by rfl) hHeld ?hy7_7 (some 4) (by rfl) ?rest7_7
 case hy7_7 => (intro W hSw; obtain ⟨x0, x1, x2, x3, x4, x5⟩ := hSw; go_simp; (try with_reducible rfl))
 try simp only [Act.put, List.setIfInBounds_toArray, List.set_cons_succ, List.set_cons_zero]
 refine anyK_done (by kernel_rfl) ?_ _
 clear hHeld
 go_wp2_with fail
 go_ret
 exact ⟨rfl, HB.out.trans (BC.out.mono HB.out.size)⟩
theorem Try.infoStep : (Try.prog.info? 80).map (fun i => (i.zero, i.size, i.bytes)) = some (some (.agg #[.pointer none, .int .i64 0]), 2, 16) := by kernel_rfl
structure WayP (tb : List (Option Addr)) (w0 w w' : World) (ns : List Nd) (lo hi : Nat) (y : Int) (q : En) (e : Ending) : Prop where
 ex : ∃ gg m c g f pre, e = .returned (.slice (some ⟨gg, 0, none⟩) (m + 1) c) ∧ w'.ownsRow w.heap.size 80 2 (.slice (some ⟨gg, 0, none⟩) (m + 1) c) (m + 1) (pre ++ [.pointer (some ⟨g, 0, none⟩), .int .i64 (upsB (ns.getD y.toNat nd0).es q : Nat)]) ∧ LkT tb w0 w' ns lo hi (f + 1) y g ∧ (ns.getD y.toNat nd0).leaf = true ∧ m ≤ 1000
set_option maxHeartbeats 3200000 in
theorem impl_wayDown {w0 : World} (KQ NQ : Int) (FQ : Nat) {aq : Option Addr} {zq : Nat} (cq : Nat) (iq : Int) {ZQ : List Int} (hq : Reads w0 aq zq ZQ) (hqq : ZQ.length = zq ∧ FQ < 18446744073709551616 ∧ zq ≤ 2097152) {tb : List (Option Addr)} {ns : List Nd} {lo hi : Nat} (hm : ∀ i j, ((ns.getD i nd0).es.getD j en0).Z.length ≤ 2097152) {f : Nat} {x : Int} {g : Nat} {w : World} (hf : f ≤ 1000) (hh : hi ≤ w.heap.size) (hw : Below w0.heap.size w0 w) (hk : LkT tb w0 w ns lo hi f x g) :
 Calls Try.prog 90 #[.pointer (some ⟨g, 0, none⟩), .func (.func 91) #[.agg #[.int .i64 KQ, .int .i64 NQ, .float .f64 FQ, .slice aq zq cq, .int .i64 iq]] #[]] w fun e w' => WayP tb w0 w w' ns lo hi (leafW ns f x ⟨KQ, NQ, FQ, ZQ, iq⟩) ⟨KQ, NQ, FQ, ZQ, iq⟩ e ∧ Below w.heap.size w w' := by
 obtain ⟨i0, hi0, hz0, hz1, hz2⟩ := info_parts Try.infoStep
 have HH := hid hh
 have HW := hid hw
 have HK := hid hk
 have HM := hid hm
 obtain ⟨y, hy⟩ : ∃ y, leafW ns f x ⟨KQ, NQ, FQ, ZQ, iq⟩ = y := ⟨_, rfl⟩
 rw [hy]
 have HY := hid hy
 clear hh hw hk hm hy
 go_enter Try.func90, Try.ntmps90
 go_wp2_with fail
 go_loopg [0, 5] f (fun r s0 s5 wr => ∃ (rr : Nat) (x : Int) (g : Nat) (va : Option Addr) (m vc : Nat) (pre : List Value), r = rr ∧ s0 = .pointer (some ⟨g, 0, none⟩) ∧ s5 = .slice va m vc ∧ m + rr ≤ 1000 ∧ Hid (leafW ns rr x ⟨KQ, NQ, FQ, ZQ, iq⟩ = y) ∧ Hid (LkT tb w0 wr ns lo hi rr x g) ∧ Hid (wr.ownsRow w.heap.size 80 2 (.slice va m vc) m pre) ∧ Hid (Below w.heap.size w wr))
 case atStart => exact ⟨f, x, g, none, 0, 0, [], rfl, rfl, rfl, by omega, HY, HK, hid (World.ownsRow_nil _ _ _ _), hid (Below.refl _ _)⟩
 case round =>
  clear HK HY
  obtain ⟨rr, x, g, va, m, vc, pre, hrr, rfl, rfl, hmr, HY, HK, HO, HB⟩ := hrel
  cases rr with
  | zero => exact absurd HK.out (by simp [LkT])
  | succ r =>
  subst hrr
  have hk := HK.out
  obtain ⟨k0, k1, k2, k3, a, c, kv, gs, -, k4, k5, k6, k7, k8⟩ := hk
  have hv : leafW ns (r + 1) x ⟨KQ, NQ, FQ, ZQ, iq⟩ = if (ns.getD x.toNat nd0).leaf then x else leafW ns r ((ns.getD x.toNat nd0).ks.getD (upsB (ns.getD x.toNat nd0).es ⟨KQ, NQ, FQ, ZQ, iq⟩) 0) ⟨KQ, NQ, FQ, ZQ, iq⟩ := by rw [leafW]
  rw [HY.out] at hv
  have HMx := hid (HM.out x.toNat)
  have hle := upsB_le (ns.getD x.toNat nd0).es ⟨KQ, NQ, FQ, ZQ, iq⟩
  obtain ⟨d, hd⟩ : ∃ d, ns.getD x.toNat nd0 = d := ⟨_, rfl⟩
  rw [hd] at k3 k4 k5 k6 k8 hv HMx hle
  have HD := hid hd
  obtain ⟨n, hn⟩ : ∃ n, d.es.length = n := ⟨_, rfl⟩
  rw [hn] at k4 hle
  have hn4 : n ≤ 4 := by
   cases hl : d.leaf with
   | true => have := form_leaf k3 hl; omega
   | false => have := form_kids k3 hl; omega
  obtain ⟨up, hup⟩ : ∃ up, upsB d.es ⟨KQ, NQ, FQ, ZQ, iq⟩ = up := ⟨_, rfl⟩
  rw [hup] at hle hv
  have HN := hid hn
  have HUp := hid hup
  have HG := hid k4
  have HE := hid k5
  have HKs := hid k6
  have HR := hid k7
  have H8 := hid k8
  have HF3 := hid k3
  have HV := hid hv
  have hgl : g < w.heap.size := by have := HH.out; omega
  have HGl := hid hgl
  clear k0 k1 k2 k3 k4 k5 k6 k7 k8 hd hn hup hv hgl
  go_wp2_with fail
  refine (impl_placeIn KQ NQ FQ cq iq hq hqq HE.out HN.out hn4 HMx.out (HW.out.trans (HB.out.mono HW.out.size)) HG.out).mono ?_
  rintro e w1 ⟨rfl, b1⟩
  rw [HUp.out]
  have hsz := HB.out.size
  have HO1 := hid (owns_below b1 (Nat.le_refl _) HO.out)
  replace H8 := hid (fun i hi => LkT.agree (Agree.below b1 (by have := HH.out; omega)) _ _ _ (H8.out i hi))
  replace HK := hid (LkT.agree (Agree.below b1 (by have := HH.out; omega)) _ _ _ HK.out)
  replace HR := hid (HR.out.agree (Agree.below b1 (by have := HH.out; omega)))
  replace HG := hid ((b1.block g (by have := HGl.out; omega)).trans HG.out)
  replace HB := hid (HB.out.trans (b1.mono HB.out.size))
  clear b1 HO hsz
  have HNw := hid (heap_alloc_new w1 (.cells #[.pointer (some ⟨g, 0, none⟩), .int .i64 (up : Int)] 80))
  have HA1 := hid (Below.alloc1 w1 (.cells #[.pointer (some ⟨g, 0, none⟩), .int .i64 (up : Int)] 80))
  have HO2 := hid (owns_below HA1.out (Nat.le_refl _) HO1.out)
  have hsz := HB.out.size
  have hsz2 := HA1.out.size
  go_wp2_with (at_builtin; refine wpList_append_lies _ rfl _ _ 76 rfl w.heap.size 80 i0 (.agg #[.pointer none, .int .i64 0]) 2 16 Try.underlying76 hi0 hz0 hz1 hz2 rfl (by omega) (.slice va m vc) m pre rfl HO2.out ⟨w1.heap.size, 0, none⟩ 1 1 [.pointer (some ⟨g, 0, none⟩), .int .i64 (up : Int)] rfl rfl (World.news_of_block HNw.out) (by simp [Value.oneCell']) (by omega) (by unfold maxLen; omega) (by omega) (by omega) _ rfl ?_)
  intro gg cc w9 o9 g9 _ _
  have HO9 := hid o9
  have HB9 := hid ((HB.out.trans (HA1.out.mono HB.out.size)).grown g9 (Nat.le_trans hsz hsz2) (fun b hb => (HO2.out.lt b hb).1))
  have hag : Agree lo hi w1 w9 := fun k _ k2 => (g9.block k (by have := HH.out; omega) (fun e => by have := (HO2.out.lt k e.symm).1; have := HH.out; omega)).trans (HA1.out.block k (by have := HH.out; omega))
  replace HK := hid (LkT.agree hag _ _ _ HK.out)
  replace HR := hid (HR.out.agree hag)
  replace H8 := hid (fun i hi => LkT.agree hag _ _ _ (H8.out i hi))
  have HG9 := hid (show w9.heap[g]? = some (.cells #[.int .i64 x, .bool d.leaf, .slice a n c, kv] 86) from (g9.block g (by have := HGl.out; omega) (fun e => by have := (HO2.out.lt g e.symm).1; have := HGl.out; omega)).trans ((HA1.out.block g (by have := HGl.out; omega)).trans HG.out))
  have c1 : w9.cell? ⟨g, 1, none⟩ = some (.bool d.leaf) := by rw [cell_of_row _ _ _ _ _ _ HG9.out]; rfl
  have c3 : w9.cell? ⟨g, 3, none⟩ = some kv := by rw [cell_of_row _ _ _ _ _ _ HG9.out]; rfl
  clear o9 g9 HO1 HO2 HNw HA1 HB hag hsz hsz2 HG
  cases hl : d.leaf with
  | true =>
   rw [hl] at c1
   have HV2 := hid (show y = x by rw [HV.out, hl, if_pos rfl])
   have HLf := hid hl
   clear hl c3
   go_wp2_with fail
   go_ret
   refine ⟨⟨gg, m, cc, g, r, pre, rfl, ?_, by rw [HV2.out]; exact HK.out, by rw [HV2.out, HD.out]; exact HLf.out, by omega⟩, HB9.out⟩
   rw [HV2.out, HD.out, HUp.out]
   exact HO9.out
  | false =>
   rw [hl] at c1
   have hkf := form_kids HF3.out hl
   have HV2 := hid (show leafW ns r (d.ks.getD up 0) ⟨KQ, NQ, FQ, ZQ, iq⟩ = y by rw [HV.out, hl, if_neg (by simp)])
   have hug : up < gs.length := by have := HKs.out; have := HN.out; omega
   obtain ⟨kb, kc, rfl, _, _, hc⟩ := HR.out.at (by omega)
   have c5 := hc up hug
   have hug0 := hug
   obtain ⟨gl, hgl⟩ : ∃ gl, gs.length = gl := ⟨_, rfl⟩
   rw [hgl] at hug c3
   have hug' : (up : Int) < (gl : Int) := by omega
   have hu0 : (0 : Int) ≤ (up : Int) := by omega
   have HKk := hid (H8.out up hug0)
   clear hl hc hgl hug0
   go_wp2_with fail
   go_roundg r
   case measure => omega
   case rel => exact ⟨r, _, _, _, m + 1, _, _, rfl, rfl, rfl, by omega, HV2, HKk, HO9, HB9⟩
set_option maxHeartbeats 1600000 in
theorem impl_wayTo {w0 : World} (KQ NQ : Int) (FQ : Nat) {aq : Option Addr} {zq : Nat} (cq : Nat) (iq : Int) {ZQ : List Int} (hq : Reads w0 aq zq ZQ) (hqq : ZQ.length = zq ∧ FQ < 18446744073709551616 ∧ zq ≤ 2097152) {tb : List (Option Addr)} {ns : List Nd} {lo hi : Nat} (hm : ∀ i j, ((ns.getD i nd0).es.getD j en0).Z.length ≤ 2097152) {f : Nat} {x : Int} {g q : Nat} {v : Value} {w : World} (hf : f ≤ 1000) (hh : hi ≤ w.heap.size) (hw : Below w0.heap.size w0 w) (hk : LkT tb w0 w ns lo hi f x g) (hg : w.heap[q]? = some (.cells #[v, .pointer (some ⟨g, 0, none⟩)] 90)) :
 Calls Try.prog 54 #[.pointer (some ⟨q, 0, none⟩), .agg #[.int .i64 KQ, .int .i64 NQ, .float .f64 FQ, .slice aq zq cq, .int .i64 iq]] w fun e w' => WayP tb w0 w w' ns lo hi (leafW ns f x ⟨KQ, NQ, FQ, ZQ, iq⟩) ⟨KQ, NQ, FQ, ZQ, iq⟩ e ∧ Below w.heap.size w w' := by
 have HH := hid hh
 have HK := hid hk
 have HM := hid hm
 clear hh hk hm
 have hst := fun w a m => run_store Try.prog w a (.float .f64 FQ) m rfl
 have HB := hid (Below.alloc1 w (.cells #[.int .i64 KQ, .int .i64 NQ, .float .f64 FQ, .slice aq zq cq, .int .i64 iq] 35))
 have HR0 := hid (heap_alloc_new w (.cells #[.int .i64 KQ, .int .i64 NQ, .float .f64 FQ, .slice aq zq cq, .int .i64 iq] 35))
 have HW := hid hw
 have HG := hid hg
 have hgl : q < w.heap.size := (Array.getElem?_eq_some_iff.1 hg).1
 have HGl := hid (show q < w.heap.size ∧ w.heap.size < (w.alloc (.cells #[.int .i64 KQ, .int .i64 NQ, .float .f64 FQ, .slice aq zq cq, .int .i64 iq] 35)).heap.size by rw [alloc_size]; omega)
 clear hw hg hgl
 go_enter Try.func54, Try.ntmps54
 go_wp2_with fail
 generalize w.alloc (.cells #[.int .i64 KQ, .int .i64 NQ, .float .f64 FQ, .slice aq zq cq, .int .i64 iq] 35) = V at *
 obtain ⟨p0, hp0⟩ : ∃ p0, w.heap.size = p0 := ⟨_, rfl⟩
 have HP0 := hid hp0
 rw [hp0] at HR0
 try simp only [hp0]
 clear hp0
 have HKp := hid (show ∀ W, Below V.heap.size V W → (fun W => W.cell? ⟨p0, 0, none⟩ = some (.int .i64 KQ) ∧ W.cell? ⟨p0, 1, none⟩ = some (.int .i64 NQ) ∧ W.cell? ⟨p0, 2, none⟩ = some (.float .f64 FQ) ∧ W.cell? ⟨p0, 3, none⟩ = some (.slice aq zq cq) ∧ W.cell? ⟨p0, 4, none⟩ = some (.int .i64 iq) ∧ W.cell? ⟨q, 1, none⟩ = some (.pointer (some ⟨g, 0, none⟩))) W from fun W b => by
  have z1 := HGl.out
  have z2 := HP0.out
  have r1 : W.heap[p0]? = _ := (b.block p0 (by omega)).trans HR0.out
  have r2 : W.heap[q]? = _ := ((HB.out.trans (b.mono HB.out.size)).block q (by omega)).trans HG.out
  exact ⟨by rw [cell_of_row _ _ _ _ _ _ r1]; rfl, by rw [cell_of_row _ _ _ _ _ _ r1]; rfl, by rw [cell_of_row _ _ _ _ _ _ r1]; rfl, by rw [cell_of_row _ _ _ _ _ _ r1]; rfl, by rw [cell_of_row _ _ _ _ _ _ r1]; rfl, by rw [cell_of_row _ _ _ _ _ _ r2]; rfl⟩)
 have BC := hid ((Still.drew V).below V.heap.size)
 refine region_K 99 (fun W => W.cell? ⟨p0, 0, none⟩ = some (.int .i64 KQ) ∧ W.cell? ⟨p0, 1, none⟩ = some (.int .i64 NQ) ∧ W.cell? ⟨p0, 2, none⟩ = some (.float .f64 FQ) ∧ W.cell? ⟨p0, 3, none⟩ = some (.slice aq zq cq) ∧ W.cell? ⟨p0, 4, none⟩ = some (.int .i64 iq) ∧ W.cell? ⟨q, 1, none⟩ = some (.pointer (some ⟨g, 0, none⟩))) (by kernel_rfl) ?_ (fun hHeld => ?_)
 · exact HKp.out _ BC.out
 generalize V.drew = vd at *
 refine anyK_take2 (i := 0) (v := ?v0_8) rfl (by kernel_rfl) (by kernel_rfl) (by kernel_rfl) (by rfl) (fun _ _ _ h => h) (by rfl) hHeld ?hy0_8 (some 5) (by rfl) ?rest0_8
 case hy0_8 => (intro W hSw; obtain ⟨x0, x1, x2, x3, x4, x5⟩ := hSw; go_simp; (try with_reducible rfl))
 try simp only [Act.put, List.setIfInBounds_toArray, List.set_cons_succ, List.set_cons_zero]
 refine anyK_take2 (i := 1) (v := ?v1_9) rfl (by kernel_rfl) (by kernel_rfl) (by kernel_rfl) (by rfl) (fun _ _ _ h => h) (by rfl) hHeld ?hy1_9 (some 6) (by rfl) ?rest1_9
 case hy1_9 => (intro W hSw; obtain ⟨x0, x1, x2, x3, x4, x5⟩ := hSw; go_simp; (try with_reducible rfl))
 try simp only [Act.put, List.setIfInBounds_toArray, List.set_cons_succ, List.set_cons_zero]
 refine anyK_take2 (i := 2) (v := ?v2_10) rfl (by kernel_rfl) (by kernel_rfl) (by kernel_rfl) (by rfl) (fun _ _ _ h => h) (by rfl) hHeld ?hy2_10 (some 7) (by rfl) ?rest2_10
 case hy2_10 => (intro W hSw; obtain ⟨x0, x1, x2, x3, x4, x5⟩ := hSw; go_simp; (try with_reducible rfl))
 try simp only [Act.put, List.setIfInBounds_toArray, List.set_cons_succ, List.set_cons_zero]
 refine anyK_take2 (i := 3) (v := ?v3_11) rfl (by kernel_rfl) (by kernel_rfl) (by kernel_rfl) (by rfl) (fun _ _ _ h => h) (by rfl) hHeld ?hy3_11 (some 8) (by rfl) ?rest3_11
 case hy3_11 => (intro W hSw; obtain ⟨x0, x1, x2, x3, x4, x5⟩ := hSw; go_simp; (try with_reducible rfl))
 try simp only [Act.put, List.setIfInBounds_toArray, List.set_cons_succ, List.set_cons_zero]
 refine anyK_take2 (i := 4) (v := ?v4_12) rfl (by kernel_rfl) (by kernel_rfl) (by kernel_rfl) (by rfl) (fun _ _ _ h => h) (by rfl) hHeld ?hy4_12 (some 9) (by rfl) ?rest4_12
 case hy4_12 => (intro W hSw; obtain ⟨x0, x1, x2, x3, x4, x5⟩ := hSw; go_simp; (try with_reducible rfl))
 try simp only [Act.put, List.setIfInBounds_toArray, List.set_cons_succ, List.set_cons_zero]
 refine anyK_take2 (i := 5) (v := ?v5_13) rfl (by kernel_rfl) (by kernel_rfl) (by kernel_rfl) (by rfl) (fun _ _ _ h => h) (by rfl) hHeld ?hy5_13 (some 10) (by rfl) ?rest5_13
 case hy5_13 => (intro W hSw; obtain ⟨x0, x1, x2, x3, x4, x5⟩ := hSw; go_simp; (try with_reducible rfl))
 try simp only [Act.put, List.setIfInBounds_toArray, List.set_cons_succ, List.set_cons_zero]
 refine anyK_step (i := 6) (by kernel_rfl) rfl (fun KP hK => ?_)
 go_simp
 refine (impl_wayDown KQ NQ FQ cq iq hq hqq HM.out hf (by have := HH.out; have := HB.out.size; have := BC.out.size; omega) (HW.out.trans ((HB.out.trans (BC.out.mono HB.out.size)).mono HW.out.size)) (LkT.agree (Agree.below (HB.out.trans (BC.out.mono HB.out.size)) HH.out) _ _ _ HK.out)).mono ?_
 rintro e v1 ⟨⟨gg, m, cc, g9, f9, pre, rfl, ho, hl, hlf, hm9⟩, b⟩
 have HF := hid (show WayP tb w0 w v1 ns lo hi (leafW ns f x ⟨KQ, NQ, FQ, ZQ, iq⟩) ⟨KQ, NQ, FQ, ZQ, iq⟩ (.returned (.slice (some ⟨gg, 0, none⟩) (m + 1) cc)) from ⟨gg, m, cc, g9, f9, pre, rfl, owns_lower ho (by have := HB.out.size; have := BC.out.size; omega), hl, hlf, hm9⟩)
 replace BC := hid (BC.out.trans (b.mono BC.out.size))
 clear b ho hl hlf
 clear hHeld
 refine hK.out _ _ (HKp.out _ BC.out) (fun hHeld => ?_)
 clear hK KP
 try simp only [Act.put, List.setIfInBounds_toArray, List.set_cons_succ, List.set_cons_zero]
 refine anyK_take2 (i := 7) (v := ?v7_14) rfl (by kernel_rfl) (by kernel_rfl) (by kernel_rfl) (by rfl) (fun _ _ _ h => h) (by rfl) hHeld ?hy7_14 (some 4) (by rfl) ?rest7_14
 case hy7_14 => (intro W hSw; obtain ⟨x0, x1, x2, x3, x4, x5⟩ := hSw; go_simp; (try with_reducible rfl))
 try simp only [Act.put, List.setIfInBounds_toArray, List.set_cons_succ, List.set_cons_zero]
 refine anyK_done (by kernel_rfl) ?_ _
 clear hHeld
 go_wp2_with fail
 go_ret
 exact ⟨HF.out, HB.out.trans (BC.out.mono HB.out.size)⟩
end Go.Proofs.Ytphmlndkjgldkaa
