/- Texts of this proof in one: Kr11 Ks11 Kt11. -/
import Derived.Test.YtphmlndkjgldkaaKq11
import Derived.Maps.AppendAt
/- The program's stretch of a kid, its test of entries that ascend, and how many a stretch has. Conditions: texts of at most 2^21 bytes. -/

namespace Go.Proofs.Ytphmlndkjgldkaa
open Go.RowKit
set_option maxRecDepth 100000
theorem size_st : (Try.prog.info? 121).map (·.size) = some 2 := by kernel_rfl
theorem ptr_at {w0 : World} {a : Option Addr} {es : List En} (h : ReadsE w0 a es) {k : Nat} (hk : k < es.length) (hm : (es.getD k en0).Z.length ≤ 2097152) : ∃ b off, a = some ⟨b, off, none⟩ ∧ PtrE w0 (some (es.getD k en0)) (.pointer (some ⟨b, off + k * 5, none⟩)) := by
 obtain ⟨b, off, a', c, rfl, bx, r, _, _, hf⟩ := h.at hk
 exact ⟨b, off, rfl, b, off + k * 5, a', c, rfl, bx, r, hf, hm⟩
set_option maxHeartbeats 3200000 in
theorem impl_ofKid {w0 : World} {lo hi : Option En} {vl vh : Value} (hl : PtrE w0 lo vl) (hh : PtrE w0 hi vh) {es : List En} {a : Option Addr} {n c g : Nat} {w : World} (hr : ReadsE w0 a es) (hn : es.length = n) (hn4 : n ≤ 4) (hm : ∀ j, (es.getD j en0).Z.length ≤ 2097152) (h2 : w.cell? ⟨g, 2, none⟩ = some (.slice a n c)) (i : Nat) (hi5 : i ≤ 5) (hin : i ≤ n) :
 Calls Try.prog 111 #[.agg #[vl, vh], .pointer (some ⟨g, 0, none⟩), .int .i64 i] w fun e w' => ∃ ul uh, e = .returned (.agg #[ul, uh]) ∧ PtrE w0 (lowAt es lo i) ul ∧ PtrE w0 (highAt es hi i) uh ∧ Below w.heap.size w w' := by
 obtain ⟨ql, rfl⟩ := hl.shape
 obtain ⟨qh, rfl⟩ := hh.shape
 have hB := two w (.cells #[.pointer ql, .pointer qh] 121) (.cells #[.pointer none, .pointer none] 121)
 obtain ⟨R1, R2, z⟩ := two_rows11 w (.cells #[.pointer ql, .pointer qh] 121) (.cells #[.pointer none, .pointer none] 121)
 have hg := World.block_lt_of_cell? w _ h2
 simp only at hg
 have HG2 := hid h2
 have HLo := hid (show lowAt es lo i = if i = 0 then lo else some (es.getD (i - 1) en0) from rfl)
 have HHi := hid (show highAt es hi i = if i < es.length then some (es.getD i en0) else hi from rfl)
 have HL := hid hl
 have HH := hid hh
 have HB := hid hB
 have HR1 := hid R1
 have HR2 := hid R2
 have HZ := hid z
 have HGz := hid hg
 have HN := hid hn
 have HRE := hid hr
 clear hB R1 R2 z h2 hl hh hg hn hr
 go_enter Try.func111, Try.ntmps111
 have k2 : ∀ o1 o2, ((w.alloc o1).alloc o2).cell? ⟨g, 2, none⟩ = some (.slice a n c) := fun o1 o2 => ((two w o1 o2).cell (p := ⟨g, 2, none⟩) HGz.out).trans HG2.out
 have HBB := hid (fun o1 o2 => two w o1 o2)
 have HRR := hid (fun o1 o2 => (two_rows11 w o1 o2).2.1)
 clear HB HR1 HR2 HZ
 by_cases h0 : i = 0
 · subst h0
   have HE1 := hid (show lowAt es lo 0 = lo from HLo.out)
   by_cases hlt : 0 < n
   · have hlt' : (0 : Int) < (n : Int) := by omega
     obtain ⟨b, off, rfl, hp⟩ := ptr_at HRE.out (k := 0) (by rw [HN.out]; exact hlt) (hm 0)
     have HPP := hid hp
     have HE2 := hid (show highAt es hi 0 = some (es.getD 0 en0) by rw [HHi.out, if_pos (by rw [HN.out]; exact hlt)])
     clear hp hm HLo HHi
     go_wp2_with fail
     refine bodyPost_ret (results_cell_row Try.results111 _ _ (w.heap.size + 1) 121 _ (0, 0) _ rfl (HRR.out _ _) Try.underlying121 rfl size_st) rfl ?_
     exact ⟨_, _, rfl, by rw [HE1.out]; exact HL.out, by rw [HE2.out]; simpa using HPP.out, HBB.out _ _⟩
   · obtain rfl : n = 0 := by omega
     have HE2 := hid (show highAt es hi 0 = hi by rw [HHi.out, if_neg (by rw [HN.out]; omega)])
     clear hm HLo HHi
     go_wp2_with fail
     refine bodyPost_ret (results_cell_row Try.results111 _ _ (w.heap.size + 1) 121 _ (0, 0) _ rfl (HRR.out _ _) Try.underlying121 rfl size_st) rfl ?_
     exact ⟨_, _, rfl, by rw [HE1.out]; exact HL.out, by rw [HE2.out]; exact HH.out, HBB.out _ _⟩
 · have h0' : (0 : Int) < (i : Int) := by omega
   have h1' : (i : Int) - 1 < (n : Int) := by omega
   have h2' : (0 : Int) ≤ (i : Int) - 1 := by omega
   have h3' : ((i : Int) - 1).toNat = i - 1 := by omega
   have HE1 := hid (show lowAt es lo i = some (es.getD (i - 1) en0) by rw [HLo.out, if_neg h0])
   obtain ⟨b, off, rfl, hp⟩ := ptr_at HRE.out (k := i - 1) (by rw [HN.out]; omega) (hm _)
   have HPP := hid hp
   by_cases hlt : i < n
   · have hlt' : (i : Int) < (n : Int) := by omega
     obtain ⟨b', off', e', hp'⟩ := ptr_at HRE.out (k := i) (by rw [HN.out]; exact hlt) (hm i)
     obtain ⟨rfl, rfl⟩ : b = b' ∧ off = off' := by simpa using e'
     have HPQ := hid hp'
     have HE2 := hid (show highAt es hi i = some (es.getD i en0) by rw [HHi.out, if_pos (by rw [HN.out]; exact hlt)])
     clear hp hp' e' hm HLo HHi
     go_wp2_with fail
     refine bodyPost_ret (results_cell_row Try.results111 _ _ (w.heap.size + 1) 121 _ (0, 0) _ rfl (HRR.out _ _) Try.underlying121 rfl size_st) rfl ?_
     exact ⟨_, _, rfl, by rw [HE1.out]; exact HPP.out, by rw [HE2.out]; exact HPQ.out, HBB.out _ _⟩
   · have hlt' : ¬ (i : Int) < (n : Int) := by omega
     have HE2 := hid (show highAt es hi i = hi by rw [HHi.out, if_neg (by rw [HN.out]; exact hlt)])
     clear hp hm HLo HHi
     go_wp2_with fail
     refine bodyPost_ret (results_cell_row Try.results111 _ _ (w.heap.size + 1) 121 _ (0, 0) _ rfl (HRR.out _ _) Try.underlying121 rfl size_st) rfl ?_
     exact ⟨_, _, rfl, by rw [HE1.out]; exact HPP.out, by rw [HE2.out]; exact HH.out, HBB.out _ _⟩
def ascAt (es : List En) (i : Nat) : Bool := decide (i = 0) || ltE (es.getD (i - 1) en0) (es.getD i en0)
def ascB (es : List En) : Bool := (List.range es.length).all (ascAt es)
theorem nodeOk_of (lo hi : Option En) (es : List En) : nodeOk lo hi es = (decide (es.countP (hasB lo hi) = es.length) && ascB es) := by
 rw [Bool.eq_iff_iff, Bool.and_eq_true, decide_eq_true_iff, List.countP_eq_length]
 unfold nodeOk ascB
 rw [List.all_eq_true, List.all_eq_true]
 constructor
 · intro h
   refine ⟨fun e he => ?_, fun i hi => ?_⟩
   · obtain ⟨j, hj, rfl⟩ := List.mem_iff_getElem.1 he
     have := h j (List.mem_range.2 hj)
     unfold okAt at this
     rw [Bool.and_eq_true, List.getD_eq_getElem?_getD, List.getElem?_eq_getElem hj] at this
     exact this.1
   · have := h i hi
     unfold okAt at this
     rw [Bool.and_eq_true] at this
     exact this.2
 · rintro ⟨h1, h2⟩ i hi
   unfold okAt
   rw [Bool.and_eq_true]
   refine ⟨h1 _ ?_, h2 i hi⟩
   have hj := List.mem_range.1 hi
   rw [List.getD_eq_getElem?_getD, List.getElem?_eq_getElem hj]
   exact List.getElem_mem hj
theorem countP_take (p : En → Bool) (es : List En) {k : Nat} (hk : k < es.length) : (es.take (k + 1)).countP p = (es.take k).countP p + (if p (es.getD k en0) = true then 1 else 0) := by
 rw [List.take_succ_eq_append_getElem hk, List.countP_append, List.getD_eq_getElem?_getD, List.getElem?_eq_getElem hk]
 simp [List.countP_cons]
set_option maxHeartbeats 3200000 in
theorem impl_count {w0 : World} {lo hi : Option En} {vl vh : Value} (hl : PtrE w0 lo vl) (hh : PtrE w0 hi vh) {es : List En} {a : Option Addr} {n : Nat} (c : Nat) {w : World} (hr : ReadsE w0 a es) (hn : es.length = n) (hn4 : n ≤ 4) (hm : ∀ j, (es.getD j en0).Z.length ≤ 2097152) (hw : Below w0.heap.size w0 w) :
 Calls Try.prog 108 #[.slice a n c, .func (.func 109) #[.agg #[vl, vh]] #[]] w fun e w' => e = .returned (.int .i64 (es.countP (hasB lo hi) : Nat)) ∧ Below w.heap.size w w' := by
 have HL := hid hl
 have HH := hid hh
 have HW := hid hw
 have HN := hid hn
 have HRE := hid hr
 have HM := hid hm
 clear hl hh hw hn hr hm
 go_enter Try.func108, Try.ntmps108
 go_wp2_with fail
 go_loopw [5, 10] (fun t i wr => ∃ k m : Nat, k ≤ n ∧ i = .int .i64 k ∧ t = .int .i64 m ∧ m ≤ k ∧ Hid (m = (es.take k).countP (hasB lo hi)) ∧ Hid (Below w.heap.size w wr)) (fun _ i _ => n - (intOf i).toNat)
 case atStart => exact ⟨0, 0, Nat.zero_le _, rfl, rfl, Nat.le_refl _, hid (by simp), hid (Below.refl _ _)⟩
 case round =>
  obtain ⟨k, m, hk, rfl, rfl, hmk, HC, HB⟩ := hrel
  by_cases hlt : k < n
  · have hlt' : (k : Int) < (n : Int) := by omega
    have hk0 : (0 : Int) ≤ (k : Int) := by omega
    have HT := hid (countP_take (hasB lo hi) es (k := k) (by rw [HN.out]; exact hlt))
    obtain ⟨b, off, a', c', rfl, bx0, r0, _, _, hf⟩ := HRE.out.at (k := k) (by rw [HN.out]; exact hlt)
    have hmz := HM.out k
    have BW := HW.out.trans (HB.out.mono HW.out.size)
    have bx := bx0.below BW (Nat.le_refl _)
    have HR0 := hid r0
    generalize es.getD k en0 = e at *
    obtain ⟨K, N, F, Z, id⟩ := e
    simp only at bx hmz hf
    have HR1 := hid (show Reads w0 a' Z.length Z from HR0.out)
    obtain ⟨z, hz⟩ : ∃ z, Z.length = z := ⟨_, rfl⟩
    rw [hz] at bx hmz HR1
    have HZ := hid hz
    have hst := fun w a m => run_store Try.prog w a (.float .f64 F) m rfl
    have HBX := hid (Below.alloc1 wr (.cells #[.int .i64 K, .int .i64 N, .float .f64 F, .slice a' z c', .int .i64 id] 35))
    have HBW := hid BW
    obtain ⟨c0, c1, c2, c3, c4⟩ := bx
    clear r0 hz bx0 HR0 BW
    go_wp2_with fail
    clear c0 c1 c2 c3 c4
    refine (impl_has HL.out HH.out K N F c' id (HBW.out.trans (HBX.out.mono HBW.out.size)) HR1.out HZ.out hf hmz).mono ?_
    rintro e w1 ⟨rfl, b1⟩
    replace HB := hid ((HB.out.trans (HBX.out.mono HB.out.size)).trans (b1.mono (HB.out.trans (HBX.out.mono HB.out.size)).size))
    clear b1 HBX HBW
    generalize hasB lo hi ⟨K, N, F, Z, id⟩ = X at *
    cases X with
    | false =>
     go_wp2_with fail
     go_roundw
     case rel => exact ⟨k + 1, m, by omega, by go_num, rfl, by omega, hid (by have := HC.out; rw [HT.out]; simp; omega), HB⟩
     case measure => simp [intOf]; omega
    | true =>
     go_wp2_with fail
     go_roundw
     case rel => exact ⟨k + 1, m + 1, by omega, by go_num, by go_num, by omega, hid (by have := HC.out; rw [HT.out]; simp; omega), HB⟩
     case measure => simp [intOf]; omega
  · obtain rfl : k = n := by omega
    go_wp2_with fail
    go_ret
    refine ⟨?_, HB.out⟩
    have e0 : es.take k = es := List.take_of_length_le (by rw [HN.out]; exact Nat.le_refl _)
    have := HC.out
    rw [e0] at this
    rw [this]
    rfl
end Go.Proofs.Ytphmlndkjgldkaa
/- The program's tests of order: entries that ascend, a node and all below it in its stretch. Conditions: texts of at most 2^21 bytes. -/

namespace Go.Proofs.Ytphmlndkjgldkaa
open Go.RowKit
set_option maxRecDepth 100000
set_option maxHeartbeats 3200000 in
theorem impl_isAscending {w0 : World} {es : List En} {a : Option Addr} {n : Nat} (c : Nat) {w : World} (hr : ReadsE w0 a es) (hn : es.length = n) (hn4 : n ≤ 4) (hm : ∀ j, (es.getD j en0).Z.length ≤ 2097152) (hw : Below w0.heap.size w0 w) :
 Calls Try.prog 110 #[.slice a n c] w fun e w' => e = .returned (.bool (ascB es)) ∧ Below w.heap.size w w' := by
 have HW := hid hw
 have HN := hid hn
 have HRE := hid hr
 have HM := hid hm
 clear hw hn hr hm
 go_enter Try.func110, Try.ntmps110
 go_wp2_with fail
 go_loopw [3] (fun i wr => ∃ k : Nat, 1 ≤ k ∧ k ≤ n + 1 ∧ i = .int .i64 k ∧ Hid (∀ j, j < k → ascAt es j = true) ∧ Hid (Below w.heap.size w wr)) (fun i _ => n + 1 - (intOf i).toNat)
 case atStart => exact ⟨1, Nat.le_refl _, by omega, rfl, hid (fun j hj => by obtain rfl : j = 0 := (by omega); rfl), hid (Below.refl _ _)⟩
 case round =>
  obtain ⟨k, hk1, hk, rfl, HA, HB⟩ := hrel
  by_cases hlt : k < n
  · have hlt' : (k : Int) < (n : Int) := by omega
    have hk0 : (0 : Int) ≤ (k : Int) := by omega
    have h1' : (k : Int) - 1 < (n : Int) := by omega
    have h2' : (0 : Int) ≤ (k : Int) - 1 := by omega
    have h3' : ((k : Int) - 1).toNat = k - 1 := by omega
    have hwr : IntKind.i64.wrap ((k : Int) - 1) = ((k - 1 : Nat) : Int) := by rw [IntKind.wrap_i64]; omega
    have h1n : ((k - 1 : Nat) : Int) < (n : Int) := by omega
    have HAt := hid (show ascAt es k = ltE (es.getD (k - 1) en0) (es.getD k en0) by unfold ascAt; rw [decide_eq_false (by omega), Bool.false_or])
    obtain ⟨b, off, a1, c1, rfl, bx1, r1, _, _, f1⟩ := HRE.out.at (k := k - 1) (by rw [HN.out]; omega)
    obtain ⟨b', off', a2, c2, e2, bx2, r2, _, _, f2⟩ := HRE.out.at (k := k) (by rw [HN.out]; exact hlt)
    obtain ⟨rfl, rfl⟩ : b = b' ∧ off = off' := by simpa using e2
    have m1 := HM.out (k - 1)
    have m2 := HM.out k
    have HBW := hid (HW.out.trans (HB.out.mono HW.out.size))
    generalize es.getD (k - 1) en0 = x at *
    generalize es.getD k en0 = y at *
    have hst := fun w a m => run_store Try.prog w a (.float .f64 x.F) m rfl
    have hst' := fun w a m => run_store Try.prog w a (.float .f64 y.F) m rfl
    have BX1 := hid bx1
    have BX2 := hid bx2
    have RX1 := hid r1
    have RX2 := hid r2
    clear bx1 bx2 r1 r2 e2
    go_wp2_with fail
    have HKp := hid (show ∀ W', Below wr.heap.size wr W' → Hid (Below w0.heap.size w0 W') from fun W' b => hid (HBW.out.trans (b.mono HBW.out.size)))
    have BC := hid ((Still.drew wr).below wr.heap.size)
    refine region_K 99 (fun W => Hid (Below w0.heap.size w0 W)) (by kernel_rfl) ?_ (fun hHeld => ?_)
    · exact HKp.out _ BC.out
    generalize wr.drew = vd at *
    refine anyK_take2 (i := 0) (v := ?v1) rfl (by kernel_rfl) (by kernel_rfl) (by kernel_rfl) (by rfl) (fun _ _ _ h => h) (by rfl) hHeld ?hy1 (some 10) (by rfl) ?rest1
    case hy1 => (intro W hSw; have HbW : Hid (Below w0.heap.size w0 W) := hSw; go_simp; (try with_reducible rfl))
    try simp only [Act.put, List.setIfInBounds_toArray, List.set_cons_succ, List.set_cons_zero]
    refine anyK_take2 (i := 1) (v := ?v2) rfl (by kernel_rfl) (by kernel_rfl) (by kernel_rfl) (by rfl) (fun _ _ _ h => h) (by rfl) hHeld ?hy2 (some 11) (by rfl) ?rest2
    case hy2 => (intro W hSw; have HbW : Hid (Below w0.heap.size w0 W) := hSw; go_simp; (try with_reducible rfl))
    try simp only [Act.put, List.setIfInBounds_toArray, List.set_cons_succ, List.set_cons_zero]
    refine anyK_take2 (i := 2) (v := ?v3) rfl (by kernel_rfl) (by kernel_rfl) (by kernel_rfl) (by rfl) (fun _ _ _ h => h) (by rfl) hHeld ?hy3 (some 12) (by rfl) ?rest3
    case hy3 => (intro W hSw; have HbW : Hid (Below w0.heap.size w0 W) := hSw; go_simp; (try with_reducible rfl))
    try simp only [Act.put, List.setIfInBounds_toArray, List.set_cons_succ, List.set_cons_zero]
    refine anyK_take2 (i := 3) (v := ?v4) rfl (by kernel_rfl) (by kernel_rfl) (by kernel_rfl) (by rfl) (fun _ _ _ h => h) (by rfl) hHeld ?hy4 (some 13) (by rfl) ?rest4
    case hy4 => (intro W hSw; have HbW : Hid (Below w0.heap.size w0 W) := hSw; go_simp; (try with_reducible rfl))
    try simp only [Act.put, List.setIfInBounds_toArray, List.set_cons_succ, List.set_cons_zero]
    refine anyK_take2 (i := 4) (v := ?v5) rfl (by kernel_rfl) (by kernel_rfl) (by kernel_rfl) (by rfl) (fun _ _ _ h => h) (by rfl) hHeld ?hy5 (some 14) (by rfl) ?rest5
    case hy5 => (intro W hSw; have HbW : Hid (Below w0.heap.size w0 W) := hSw; obtain ⟨z0, z1, z2, z3, z4⟩ := BX1.out.below HbW.out (Nat.le_refl _); go_simp; (try with_reducible rfl))
    try simp only [Act.put, List.setIfInBounds_toArray, List.set_cons_succ, List.set_cons_zero]
    refine anyK_take2 (i := 5) (v := ?v6) rfl (by kernel_rfl) (by kernel_rfl) (by kernel_rfl) (by rfl) (fun _ _ _ h => h) (by rfl) hHeld ?hy6 (some 15) (by rfl) ?rest6
    case hy6 => (intro W hSw; have HbW : Hid (Below w0.heap.size w0 W) := hSw; go_simp; (try with_reducible rfl))
    try simp only [Act.put, List.setIfInBounds_toArray, List.set_cons_succ, List.set_cons_zero]
    refine anyK_take2 (i := 6) (v := ?v7) rfl (by kernel_rfl) (by kernel_rfl) (by kernel_rfl) (by rfl) (fun _ _ _ h => h) (by rfl) hHeld ?hy7 (some 16) (by rfl) ?rest7
    case hy7 => (intro W hSw; have HbW : Hid (Below w0.heap.size w0 W) := hSw; go_simp; (try with_reducible rfl))
    try simp only [Act.put, List.setIfInBounds_toArray, List.set_cons_succ, List.set_cons_zero]
    refine anyK_take2 (i := 7) (v := ?v8) rfl (by kernel_rfl) (by kernel_rfl) (by kernel_rfl) (by rfl) (fun _ _ _ h => h) (by rfl) hHeld ?hy8 (some 17) (by rfl) ?rest8
    case hy8 => (intro W hSw; have HbW : Hid (Below w0.heap.size w0 W) := hSw; go_simp; (try with_reducible rfl))
    try simp only [Act.put, List.setIfInBounds_toArray, List.set_cons_succ, List.set_cons_zero]
    refine anyK_take2 (i := 8) (v := ?v9) rfl (by kernel_rfl) (by kernel_rfl) (by kernel_rfl) (by rfl) (fun _ _ _ h => h) (by rfl) hHeld ?hy9 (some 18) (by rfl) ?rest9
    case hy9 => (intro W hSw; have HbW : Hid (Below w0.heap.size w0 W) := hSw; obtain ⟨z0, z1, z2, z3, z4⟩ := BX2.out.below HbW.out (Nat.le_refl _); go_simp; (try with_reducible rfl))
    try simp only [Act.put, List.setIfInBounds_toArray, List.set_cons_succ, List.set_cons_zero]
    refine anyK_step (i := 9) (by kernel_rfl) rfl (fun KP hK => ?_)
    go_simp
    refine (impl_notBelow x.K x.N x.F c1 x.id y.K y.N y.F c2 y.id f1 f2 (RX1.out.below (HKp.out _ BC.out).out (Nat.le_refl _)) (RX2.out.below (HKp.out _ BC.out).out (Nat.le_refl _)) m1 m2).mono ?_
    rintro e v1 ⟨rfl, b⟩
    replace BC := hid (BC.out.trans (b.mono BC.out.size))
    clear b
    replace HAt := hid (show ascAt es k = ltB (cmpI x.K x.N x.F x.Z.length x.Z y.K y.N y.F y.Z.length y.Z) x.id y.id from HAt.out)
    obtain ⟨LT, hLT⟩ : ∃ LT, ltB (cmpI x.K x.N x.F x.Z.length x.Z y.K y.N y.F y.Z.length y.Z) x.id y.id = LT := ⟨_, rfl⟩
    rw [hLT]
    rw [hLT] at HAt
    clear hLT
    go_wp2_with fail
    clear hHeld
    refine hK.out _ _ (HKp.out _ BC.out) (fun hHeld => ?_)
    clear hK KP
    try simp only [Act.put, List.setIfInBounds_toArray, List.set_cons_succ, List.set_cons_zero]
    refine anyK_done (by kernel_rfl) ?_ _
    clear hHeld
    replace HB := hid (HB.out.trans (BC.out.mono HB.out.size))
    cases LT with
    | false =>
     go_wp2_with fail
     go_ret
     refine ⟨?_, HB.out⟩
     have e0 : ascB es = false := List.all_eq_false.2 ⟨k, List.mem_range.2 (by rw [HN.out]; exact hlt), by rw [HAt.out]; simp⟩
     rw [e0]
     rfl
    | true =>
     go_wp2_with fail
     go_roundw
     case rel => exact ⟨k + 1, by omega, by omega, by go_num, hid (fun j hj => by by_cases e : j = k; exact e ▸ HAt.out; exact HA.out j (by omega)), HB⟩
     case measure => simp [intOf]; omega
  · have hlt' : ¬ (k : Int) < (n : Int) := by omega
    go_wp2_with fail
    go_ret
    refine ⟨?_, HB.out⟩
    have e0 : ascB es = true := List.all_eq_true.2 (fun j hj => HA.out j (by have := List.mem_range.1 hj; rw [HN.out] at this; omega))
    rw [e0]
    rfl
set_option maxHeartbeats 6400000 in
theorem impl_isInOrder {w0 : World} {ns : List Nd} (hm : ∀ i j, ((ns.getD i nd0).es.getD j en0).Z.length ≤ 2097152) : ∀ (f : Nat) (x : Int) (g : Nat) (lo hi : Option En) (vl vh : Value) (w : World) (l h : Nat), h ≤ w.heap.size → Below w0.heap.size w0 w → Lk w0 w ns l h f x g → PtrE w0 lo vl → PtrE w0 hi vh →
 Calls Try.prog 88 #[.pointer (some ⟨g, 0, none⟩), .agg #[vl, vh]] w fun e w' => e = .returned (.bool (ino ns f x lo hi)) ∧ Below w.heap.size w w'
 | 0, _, _, _, _, _, _, _, _, _, _, _, hk, _, _ => absurd hk (by simp [Lk])
 | f + 1, x, g, lo, hi, vl, vh, w, l, h, hh, hw, hk, hpl, hph => by
  have IH := hid (fun x g lo hi vl vh w a b c d e => impl_isInOrder (w0 := w0) (ns := ns) hm f x g lo hi vl vh w l h a b c d e)
  obtain ⟨h1, h2, h3, a, c, kv, gs, h4, h5, h6, h7, h8⟩ := hk
  have hv : ino ns (f + 1) x lo hi = (nodeOk lo hi (ns.getD x.toNat nd0).es && (List.range (ns.getD x.toNat nd0).ks.length).all (fun i => ino ns f ((ns.getD x.toNat nd0).ks.getD i 0) (lowAt (ns.getD x.toNat nd0).es lo i) (highAt (ns.getD x.toNat nd0).es hi i))) := by rw [ino]
  have HM := hid (hm x.toNat)
  generalize ns.getD x.toNat nd0 = d at *
  rw [nodeOk_of] at hv
  have HV := hid hv
  obtain ⟨ql, rfl⟩ := hpl.shape
  obtain ⟨qh, rfl⟩ := hph.shape
  have hB := Below.alloc1 w (.cells #[.pointer ql, .pointer qh] 121)
  have HR0 := hid (heap_alloc_new w (.cells #[.pointer ql, .pointer qh] 121))
  have hz := alloc_size w (.cells #[.pointer ql, .pointer qh] 121)
  obtain ⟨ka, kc, rfl⟩ := own_sl h7.own
  obtain ⟨n, hn⟩ : ∃ n, d.es.length = n := ⟨_, rfl⟩
  obtain ⟨q, hq⟩ : ∃ q, gs.length = q := ⟨_, rfl⟩
  rw [hn, hq] at h4
  have hn4 : n ≤ 4 := by
   cases hl : d.leaf with
   | true => have := form_leaf h3 hl; omega
   | false => have := form_kids h3 hl; omega
  have hqn : ∀ k, k < q → k ≤ n := fun k hk => by
   cases hl : d.leaf with
   | true => have := form_leaf h3 hl; omega
   | false => have := form_kids h3 hl; omega
  have hq5 : q ≤ 5 := by
   cases hl : d.leaf with
   | true => have := form_leaf h3 hl; omega
   | false => have := form_kids h3 hl; omega
  have HQN := hid hqn
  have HN := hid hn
  have HQ := hid hq
  have HQK := hid h6
  have HG := hid h4
  have HRE := hid h5
  have HK7 := hid h7
  have H8 := hid h8
  have HL := hid hpl
  have HH := hid hph
  have HW := hid hw
  have HB := hid hB
  have HGz := hid (show g < w.heap.size ∧ w.heap.size < (w.alloc (.cells #[.pointer ql, .pointer qh] 121)).heap.size ∧ h ≤ w.heap.size by omega)
  clear h1 h2 h3 h4 h5 h6 h7 h8 hv hpl hph hw hB hz hn hq hqn hh
  go_enter Try.func88, Try.ntmps88
  go_wp2_with fail
  generalize w.alloc (.cells #[.pointer ql, .pointer qh] 121) = V at *
  obtain ⟨p0, hp0⟩ : ∃ p0, w.heap.size = p0 := ⟨_, rfl⟩
  have HP0 := hid hp0
  rw [hp0] at HR0
  try simp only [hp0]
  clear hp0
  have HKq := hid (show ∀ W', Below V.heap.size V W' → W'.heap[p0]? = some (.cells #[.pointer ql, .pointer qh] 121) ∧ W'.heap[g]? = some (.cells #[.int .i64 x, .bool d.leaf, .slice a n c, .slice ka q kc] 86) ∧ Below w0.heap.size w0 W' ∧ Below w.heap.size w W' from fun W' b => by
   have z1 := HGz.out
   have z2 := HP0.out
   have bw := HB.out.trans (b.mono HB.out.size)
   exact ⟨(b.block p0 (by omega)).trans HR0.out, (bw.block g (by omega)).trans HG.out, HW.out.trans (bw.mono HW.out.size), bw⟩)
  have HKp := hid (show ∀ W', Below V.heap.size V W' → (W'.cell? ⟨p0, 0, none⟩ = some (.pointer ql) ∧ W'.cell? ⟨p0, 1, none⟩ = some (.pointer qh)) ∧ W'.cell? ⟨g, 2, none⟩ = some (.slice a n c) from fun W' b => by
   obtain ⟨r1, r2, _⟩ := HKq.out W' b
   exact ⟨⟨by rw [cell_of_row _ _ _ _ _ _ r1]; rfl, by rw [cell_of_row _ _ _ _ _ _ r1]; rfl⟩, by rw [cell_of_row _ _ _ _ _ _ r2]; rfl⟩)
  have BC := hid ((Still.drew V).below V.heap.size)
  refine region_K 99 (fun W => (W.cell? ⟨p0, 0, none⟩ = some (.pointer ql) ∧ W.cell? ⟨p0, 1, none⟩ = some (.pointer qh)) ∧ W.cell? ⟨g, 2, none⟩ = some (.slice a n c)) (by kernel_rfl) ?_ (fun hHeld => ?_)
  · exact HKp.out _ BC.out
  generalize V.drew = vd at *
  refine anyK_take2 (i := 0) (v := ?v51) rfl (by kernel_rfl) (by kernel_rfl) (by kernel_rfl) (by rfl) (fun _ _ _ h => h) (by rfl) hHeld ?hy51 (some 7) (by rfl) ?rest51
  case hy51 => (intro W hSw; obtain ⟨⟨x0, x1⟩, x2⟩ := hSw; go_simp; (try with_reducible rfl))
  try simp only [Act.put, List.setIfInBounds_toArray, List.set_cons_succ, List.set_cons_zero]
  refine anyK_take2 (i := 1) (v := ?v52) rfl (by kernel_rfl) (by kernel_rfl) (by kernel_rfl) (by rfl) (fun _ _ _ h => h) (by rfl) hHeld ?hy52 (some 8) (by rfl) ?rest52
  case hy52 => (intro W hSw; obtain ⟨⟨x0, x1⟩, x2⟩ := hSw; go_simp; (try with_reducible rfl))
  try simp only [Act.put, List.setIfInBounds_toArray, List.set_cons_succ, List.set_cons_zero]
  refine anyK_take2 (i := 2) (v := ?v53) rfl (by kernel_rfl) (by kernel_rfl) (by kernel_rfl) (by rfl) (fun _ _ _ h => h) (by rfl) hHeld ?hy53 (some 9) (by rfl) ?rest53
  case hy53 => (intro W hSw; obtain ⟨⟨x0, x1⟩, x2⟩ := hSw; go_simp; (try with_reducible rfl))
  try simp only [Act.put, List.setIfInBounds_toArray, List.set_cons_succ, List.set_cons_zero]
  refine anyK_take2 (i := 3) (v := ?v54) rfl (by kernel_rfl) (by kernel_rfl) (by kernel_rfl) (by rfl) (fun _ _ _ h => h) (by rfl) hHeld ?hy54 (some 10) (by rfl) ?rest54
  case hy54 => (intro W hSw; obtain ⟨⟨x0, x1⟩, x2⟩ := hSw; go_simp; (try with_reducible rfl))
  try simp only [Act.put, List.setIfInBounds_toArray, List.set_cons_succ, List.set_cons_zero]
  refine anyK_take2 (i := 4) (v := ?v55) rfl (by kernel_rfl) (by kernel_rfl) (by kernel_rfl) (by rfl) (fun _ _ _ h => h) (by rfl) hHeld ?hy55 (some 11) (by rfl) ?rest55
  case hy55 => (intro W hSw; obtain ⟨⟨x0, x1⟩, x2⟩ := hSw; go_simp; (try with_reducible rfl))
  try simp only [Act.put, List.setIfInBounds_toArray, List.set_cons_succ, List.set_cons_zero]
  refine anyK_take2 (i := 5) (v := ?v56) rfl (by kernel_rfl) (by kernel_rfl) (by kernel_rfl) (by rfl) (fun _ _ _ h => h) (by rfl) hHeld ?hy56 (some 12) (by rfl) ?rest56
  case hy56 => (intro W hSw; obtain ⟨⟨x0, x1⟩, x2⟩ := hSw; go_simp; (try with_reducible rfl))
  try simp only [Act.put, List.setIfInBounds_toArray, List.set_cons_succ, List.set_cons_zero]
  refine anyK_take2 (i := 7) (v := ?v57) rfl (by kernel_rfl) (by kernel_rfl) (by kernel_rfl) (by rfl) (fun _ _ _ h => h) (by rfl) hHeld ?hy57 (some 14) (by rfl) ?rest57
  case hy57 => (intro W hSw; obtain ⟨⟨x0, x1⟩, x2⟩ := hSw; go_simp; (try with_reducible rfl))
  try simp only [Act.put, List.setIfInBounds_toArray, List.set_cons_succ, List.set_cons_zero]
  refine anyK_take2 (i := 8) (v := ?v58) rfl (by kernel_rfl) (by kernel_rfl) (by kernel_rfl) (by rfl) (fun _ _ _ h => h) (by rfl) hHeld ?hy58 (some 15) (by rfl) ?rest58
  case hy58 => (intro W hSw; obtain ⟨⟨x0, x1⟩, x2⟩ := hSw; go_simp; (try with_reducible rfl))
  try simp only [Act.put, List.setIfInBounds_toArray, List.set_cons_succ, List.set_cons_zero]
  refine anyK_take2 (i := 9) (v := ?v59) rfl (by kernel_rfl) (by kernel_rfl) (by kernel_rfl) (by rfl) (fun _ _ _ h => h) (by rfl) hHeld ?hy59 (some 16) (by rfl) ?rest59
  case hy59 => (intro W hSw; obtain ⟨⟨x0, x1⟩, x2⟩ := hSw; go_simp; (try with_reducible rfl))
  try simp only [Act.put, List.setIfInBounds_toArray, List.set_cons_succ, List.set_cons_zero]
  refine anyK_take2 (i := 10) (v := ?v60) rfl (by kernel_rfl) (by kernel_rfl) (by kernel_rfl) (by rfl) (fun _ _ _ h => h) (by rfl) hHeld ?hy60 (some 17) (by rfl) ?rest60
  case hy60 => (intro W hSw; obtain ⟨⟨x0, x1⟩, x2⟩ := hSw; go_simp; (try with_reducible rfl))
  try simp only [Act.put, List.setIfInBounds_toArray, List.set_cons_succ, List.set_cons_zero]
  refine anyK_take2 (i := 11) (v := ?v61) rfl (by kernel_rfl) (by kernel_rfl) (by kernel_rfl) (by rfl) (fun _ _ _ h => h) (by rfl) hHeld ?hy61 (some 18) (by rfl) ?rest61
  case hy61 => (intro W hSw; obtain ⟨⟨x0, x1⟩, x2⟩ := hSw; go_simp; (try with_reducible rfl))
  try simp only [Act.put, List.setIfInBounds_toArray, List.set_cons_succ, List.set_cons_zero]
  refine anyK_step (i := 6) (by kernel_rfl) rfl (fun KP hK => ?_)
  go_simp
  refine (impl_count HL.out HH.out c HRE.out HN.out hn4 HM.out (HKq.out _ BC.out).2.2.1).mono ?_
  rintro e v1 ⟨rfl, b⟩
  replace BC := hid (BC.out.trans (b.mono BC.out.size))
  clear b
  have hle : d.es.countP (hasB lo hi) ≤ n := by rw [← HN.out]; exact List.countP_le_length
  rw [HN.out] at HV
  obtain ⟨m, hmm⟩ : ∃ m, d.es.countP (hasB lo hi) = m := ⟨_, rfl⟩
  rw [hmm]
  rw [hmm] at HV hle
  clear hmm
  go_wp2_with fail
  clear hHeld
  refine hK.out _ _ (HKp.out _ BC.out) (fun hHeld => ?_)
  clear hK KP
  try simp only [Act.put, List.setIfInBounds_toArray, List.set_cons_succ, List.set_cons_zero]
  by_cases hmn : m = n
  · subst hmn
    rw [decide_eq_true rfl, Bool.true_and] at HV
    refine anyK_take2 (i := 12) (v := ?v62) rfl (by kernel_rfl) (by kernel_rfl) (by kernel_rfl) (by rfl) (fun _ _ _ h => h) (by rfl) hHeld ?hy62 (some 19) (by rfl) ?rest62
    case hy62 => (intro W hSw; obtain ⟨⟨x0, x1⟩, x2⟩ := hSw; go_simp; (try with_reducible rfl))
    try simp only [Act.put, List.setIfInBounds_toArray, List.set_cons_succ, List.set_cons_zero]
    refine anyK_take2 (i := 13) (v := ?v63) rfl (by kernel_rfl) (by kernel_rfl) (by kernel_rfl) (by rfl) (fun _ _ _ h => h) (by rfl) hHeld ?hy63 (some 20) (by rfl) ?rest63
    case hy63 => (intro W hSw; obtain ⟨⟨x0, x1⟩, x2⟩ := hSw; go_simp; (try with_reducible rfl))
    try simp only [Act.put, List.setIfInBounds_toArray, List.set_cons_succ, List.set_cons_zero]
    refine anyK_take2 (i := 14) (v := ?v64) rfl (by kernel_rfl) (by kernel_rfl) (by kernel_rfl) (by rfl) (fun _ _ _ h => h) (by rfl) hHeld ?hy64 (some 21) (by rfl) ?rest64
    case hy64 => (intro W hSw; obtain ⟨⟨x0, x1⟩, x2⟩ := hSw; go_simp; (try with_reducible rfl))
    try simp only [Act.put, List.setIfInBounds_toArray, List.set_cons_succ, List.set_cons_zero]
    refine anyK_take2 (i := 15) (v := ?v65) rfl (by kernel_rfl) (by kernel_rfl) (by kernel_rfl) (by rfl) (fun _ _ _ h => h) (by rfl) hHeld ?hy65 (some 22) (by rfl) ?rest65
    case hy65 => (intro W hSw; obtain ⟨⟨x0, x1⟩, x2⟩ := hSw; go_simp; (try with_reducible rfl))
    try simp only [Act.put, List.setIfInBounds_toArray, List.set_cons_succ, List.set_cons_zero]
    refine anyK_take2 (i := 16) (v := ?v66) rfl (by kernel_rfl) (by kernel_rfl) (by kernel_rfl) (by rfl) (fun _ _ _ h => h) (by rfl) hHeld ?hy66 (some 23) (by rfl) ?rest66
    case hy66 => (intro W hSw; obtain ⟨⟨x0, x1⟩, x2⟩ := hSw; go_simp; (try with_reducible rfl))
    try simp only [Act.put, List.setIfInBounds_toArray, List.set_cons_succ, List.set_cons_zero]
    refine anyK_take2 (i := 17) (v := ?v67) rfl (by kernel_rfl) (by kernel_rfl) (by kernel_rfl) (by rfl) (fun _ _ _ h => h) (by rfl) hHeld ?hy67 (some 24) (by rfl) ?rest67
    case hy67 => (intro W hSw; obtain ⟨⟨x0, x1⟩, x2⟩ := hSw; go_simp; (try with_reducible rfl))
    try simp only [Act.put, List.setIfInBounds_toArray, List.set_cons_succ, List.set_cons_zero]
    refine anyK_step (i := 18) (by kernel_rfl) rfl (fun KP hK => ?_)
    go_simp
    refine (impl_isAscending c HRE.out HN.out hn4 HM.out (HKq.out _ BC.out).2.2.1).mono ?_
    rintro e v2 ⟨rfl, b⟩
    replace BC := hid (BC.out.trans (b.mono BC.out.size))
    clear b
    generalize ascB d.es = AB at *
    go_wp2_with fail
    clear hHeld
    refine hK.out _ _ (HKp.out _ BC.out) (fun hHeld => ?_)
    clear hK KP
    try simp only [Act.put, List.setIfInBounds_toArray, List.set_cons_succ, List.set_cons_zero]
    cases AB with
    | false =>
     refine anyK_take2 (i := 19) (v := ?v68) rfl (by kernel_rfl) (by kernel_rfl) (by kernel_rfl) (by rfl) (fun _ _ _ h => h) (by rfl) hHeld ?hy68 (some 26) (by rfl) ?rest68
     case hy68 => (intro W hSw; obtain ⟨⟨x0, x1⟩, x2⟩ := hSw; go_simp; (try with_reducible rfl))
     try simp only [Act.put, List.setIfInBounds_toArray, List.set_cons_succ, List.set_cons_zero]
     refine anyK_take2 (i := 20) (v := ?v69) rfl (by kernel_rfl) (by kernel_rfl) (by kernel_rfl) (by rfl) (fun _ _ _ h => h) (by rfl) hHeld ?hy69 (some 27) (by rfl) ?rest69
     case hy69 => (intro W hSw; obtain ⟨⟨x0, x1⟩, x2⟩ := hSw; go_simp; (try with_reducible rfl))
     try simp only [Act.put, List.setIfInBounds_toArray, List.set_cons_succ, List.set_cons_zero]
     refine anyK_done (by kernel_rfl) ?_ _
     clear hHeld
     rw [Bool.false_and] at HV
     have HBE := hid (HKq.out _ BC.out).2.2.2
     go_wp2_with fail
     go_ret
     exact ⟨by rw [HV.out]; rfl, HBE.out⟩
    | true =>
     refine anyK_take2 (i := 19) (v := ?v70) rfl (by kernel_rfl) (by kernel_rfl) (by kernel_rfl) (by rfl) (fun _ _ _ h => h) (by rfl) hHeld ?hy70 (some 26) (by rfl) ?rest70
     case hy70 => (intro W hSw; obtain ⟨⟨x0, x1⟩, x2⟩ := hSw; go_simp; (try with_reducible rfl))
     try simp only [Act.put, List.setIfInBounds_toArray, List.set_cons_succ, List.set_cons_zero]
     refine anyK_take2 (i := 20) (v := ?v71) rfl (by kernel_rfl) (by kernel_rfl) (by kernel_rfl) (by rfl) (fun _ _ _ h => h) (by rfl) hHeld ?hy71 (some 27) (by rfl) ?rest71
     case hy71 => (intro W hSw; obtain ⟨⟨x0, x1⟩, x2⟩ := hSw; go_simp; (try with_reducible rfl))
     try simp only [Act.put, List.setIfInBounds_toArray, List.set_cons_succ, List.set_cons_zero]
     refine anyK_done (by kernel_rfl) ?_ _
     clear hHeld
     rw [Bool.true_and] at HV
     have k3 : v2.cell? ⟨g, 3, none⟩ = some (.slice ka q kc) := by rw [cell_of_row _ _ _ _ _ _ (HKq.out _ BC.out).2.1]; rfl
     go_wp2_with fail
     go_loopw [33] (fun i wr => ∃ k : Nat, k ≤ q ∧ i = .int .i64 k ∧ Hid (∀ j, j < k → ino ns f (d.ks.getD j 0) (lowAt d.es lo j) (highAt d.es hi j) = true) ∧ Hid (Below V.heap.size V wr)) (fun i _ => q - (intOf i).toNat)
     case atStart => exact ⟨0, Nat.zero_le _, rfl, hid (fun j hj => by omega), BC⟩
     case round =>
      obtain ⟨k, hk, rfl, HA, HS⟩ := hrel
      by_cases hlt : k < q
      · have hlt' : (k : Int) < (q : Int) := by omega
        have hk0 : (0 : Int) ≤ (k : Int) := by omega
        obtain ⟨⟨x0, x1⟩, x2⟩ := HKp.out _ HS.out
        have HX2 := hid x2
        obtain ⟨kb, kc', e7, kb1, kb2, hc⟩ := HK7.out.at (by rw [HQ.out]; omega)
        obtain ⟨rfl, _, rfl⟩ := Value.slice.inj e7
        have HBw := hid (HKq.out _ HS.out).2.2.2
        have k5 := (HBw.out.cell (p := ⟨kb, k, none⟩) (by have := HGz.out; simp only; omega)).trans (hc k (by rw [HQ.out]; exact hlt))
        have HKid := hid (H8.out k (by rw [HQ.out]; exact hlt))
        clear hc e7
        go_wp2_with fail
        refine (impl_ofKid HL.out HH.out HRE.out HN.out hn4 HM.out HX2.out k (by omega) (HQN.out k hlt)).mono ?_
        rintro e w1 ⟨ul, uh, rfl, pl, ph, b⟩
        replace HBw := hid (HBw.out.trans (b.mono HBw.out.size))
        replace HS := hid (HS.out.trans (b.mono HS.out.size))
        have HPL := hid pl
        have HPH := hid ph
        clear b pl ph x0 x1 x2 k5
        go_wp2_with fail
        refine (IH.out _ _ _ _ _ _ _ (Nat.le_trans HGz.out.2.2 HBw.out.size) (HKq.out _ HS.out).2.2.1 (Lk.agree (Agree.below HBw.out HGz.out.2.2) f _ _ HKid.out) HPL.out HPH.out).mono ?_
        rintro e w2 ⟨rfl, b⟩
        replace HS := hid (HS.out.trans (b.mono HS.out.size))
        clear b
        have HIn := hid (show ∀ b, ino ns f (d.ks.getD k 0) (lowAt d.es lo k) (highAt d.es hi k) = b → ino ns f (d.ks.getD k 0) (lowAt d.es lo k) (highAt d.es hi k) = b from fun _ e => e)
        obtain ⟨X, hX⟩ : ∃ X, ino ns f (d.ks.getD k 0) (lowAt d.es lo k) (highAt d.es hi k) = X := ⟨_, rfl⟩
        rw [hX]
        have HX := hid hX
        clear hX HIn
        cases X with
        | false =>
         have HBE := hid (HKq.out _ HS.out).2.2.2
         go_wp2_with fail
         go_ret
         have e0 : (List.range d.ks.length).all (fun i => ino ns f (d.ks.getD i 0) (lowAt d.es lo i) (highAt d.es hi i)) = false := List.all_eq_false.2 ⟨k, List.mem_range.2 (by rw [← HQK.out, HQ.out]; exact hlt), by rw [HX.out]; simp⟩
         exact ⟨by rw [HV.out, e0]; rfl, HBE.out⟩
        | true =>
         go_wp2_with fail
         go_roundw
         case rel => exact ⟨k + 1, by omega, by go_num, hid (fun j hj => by by_cases e : j = k; exact e ▸ HX.out; exact HA.out j (by omega)), HS⟩
         case measure => simp [intOf]; omega
      · obtain rfl : k = q := by omega
        have HBE := hid (HKq.out _ HS.out).2.2.2
        go_wp2_with fail
        go_ret
        have e0 : (List.range d.ks.length).all (fun i => ino ns f (d.ks.getD i 0) (lowAt d.es lo i) (highAt d.es hi i)) = true := List.all_eq_true.2 (fun j hj => HA.out j (by have := List.mem_range.1 hj; rw [← HQK.out, HQ.out] at this; exact this))
        exact ⟨by rw [HV.out, e0]; rfl, HBE.out⟩
  · have hmb : ((m : Int) != (n : Int)) = true := by simp; omega
    rw [decide_eq_false hmn, Bool.false_and, Bool.false_and] at HV
    refine anyK_take2 (i := 12) (v := ?v72) rfl (by kernel_rfl) (by kernel_rfl) (by kernel_rfl) (by rfl) (fun _ _ _ h => h) (by rfl) hHeld ?hy72 (some 19) (by rfl) ?rest72
    case hy72 => (intro W hSw; obtain ⟨⟨x0, x1⟩, x2⟩ := hSw; go_simp; (try with_reducible rfl))
    try simp only [Act.put, List.setIfInBounds_toArray, List.set_cons_succ, List.set_cons_zero]
    refine anyK_take2 (i := 13) (v := ?v73) rfl (by kernel_rfl) (by kernel_rfl) (by kernel_rfl) (by rfl) (fun _ _ _ h => h) (by rfl) hHeld ?hy73 (some 20) (by rfl) ?rest73
    case hy73 => (intro W hSw; obtain ⟨⟨x0, x1⟩, x2⟩ := hSw; go_simp; (try with_reducible rfl))
    try simp only [Act.put, List.setIfInBounds_toArray, List.set_cons_succ, List.set_cons_zero]
    refine anyK_skip (i := 14) rfl (by kernel_rfl) (by kernel_rfl) (by kernel_rfl) (by kernel_rfl) (fun _ _ _ h => h) (by rfl) hHeld (some 21) (by rfl) ?_
    try simp only [Act.put, List.setIfInBounds_toArray, List.set_cons_succ, List.set_cons_zero]
    refine anyK_skip (i := 15) rfl (by kernel_rfl) (by kernel_rfl) (by kernel_rfl) (by kernel_rfl) (fun _ _ _ h => h) (by rfl) hHeld (some 22) (by rfl) ?_
    try simp only [Act.put, List.setIfInBounds_toArray, List.set_cons_succ, List.set_cons_zero]
    refine anyK_skip (i := 16) rfl (by kernel_rfl) (by kernel_rfl) (by kernel_rfl) (by kernel_rfl) (fun _ _ _ h => h) (by rfl) hHeld (some 23) (by rfl) ?_
    try simp only [Act.put, List.setIfInBounds_toArray, List.set_cons_succ, List.set_cons_zero]
    refine anyK_skip (i := 17) rfl (by kernel_rfl) (by kernel_rfl) (by kernel_rfl) (by kernel_rfl) (fun _ _ _ h => h) (by rfl) hHeld (some 24) (by rfl) ?_
    try simp only [Act.put, List.setIfInBounds_toArray, List.set_cons_succ, List.set_cons_zero]
    refine anyK_skip (i := 18) rfl (by kernel_rfl) (by kernel_rfl) (by kernel_rfl) (by kernel_rfl) (fun _ _ _ h => h) (by rfl) hHeld (some 25) (by rfl) ?_
    try simp only [Act.put, List.setIfInBounds_toArray, List.set_cons_succ, List.set_cons_zero]
    refine anyK_skip (i := 19) rfl (by kernel_rfl) (by kernel_rfl) (by kernel_rfl) (by kernel_rfl) (fun _ _ _ h => h) (by rfl) hHeld (some 26) (by rfl) ?_
    try simp only [Act.put, List.setIfInBounds_toArray, List.set_cons_succ, List.set_cons_zero]
    refine anyK_take2 (i := 20) (v := ?v74) rfl (by kernel_rfl) (by kernel_rfl) (by kernel_rfl) (by rfl) (fun _ _ _ h => h) (by rfl) hHeld ?hy74 (some 27) (by rfl) ?rest74
    case hy74 => (intro W hSw; obtain ⟨⟨x0, x1⟩, x2⟩ := hSw; go_simp; (try with_reducible rfl))
    try simp only [Act.put, List.setIfInBounds_toArray, List.set_cons_succ, List.set_cons_zero]
    refine anyK_done (by kernel_rfl) ?_ _
    clear hHeld
    have HBE := hid (HKq.out _ BC.out).2.2.2
    go_wp2_with fail
    go_ret
    exact ⟨by rw [HV.out]; rfl, HBE.out⟩
end Go.Proofs.Ytphmlndkjgldkaa
/- The program links nodes. Conditions: at most 300 nodes. -/


namespace Go.Proofs.Ytphmlndkjgldkaa
open Go.RowKit
set_option maxRecDepth 100000
theorem Try.infoPn : (Try.prog.info? 78).map (fun i => (i.zero, i.size, i.bytes)) = some (some (.pointer none), 1, 8) := by kernel_rfl
theorem Kept.of_grown {w w' : World} {row : Option Nat} (h : w.grownBy w' row) : Kept (fun b => some b = row) w w' := ⟨h.os, h.tape, h.output, h.size, fun k hk hx => h.block k hk hx⟩
structure NRow (w : World) (r N : Nat) (sd : List Bool) : Prop where
 ex : ∃ ps : List (Option Addr), ps.length = N ∧ w.heap[r]? = some (.cells (ps.map Value.pointer).toArray 78) ∧ ps.map (·.isSome) = sd
theorem NRow.len {w : World} {r N : Nat} {sd : List Bool} (h : NRow w r N sd) : sd.length = N := by
 obtain ⟨ps, h1, _, rfl⟩ := h.ex
 simpa using h1
theorem NRow.at {w : World} {r N : Nat} {sd : List Bool} (h : NRow w r N sd) {i : Nat} (hi : i < N) : ∃ o : Option Addr, w.cell? ⟨r, i, none⟩ = some (.pointer o) ∧ sd.getD i true = o.isSome := by
 obtain ⟨ps, h1, h2, rfl⟩ := h.ex
 have hi' : i < ps.length := by omega
 refine ⟨ps[i], ?_, ?_⟩
 · rw [cell_of_row _ _ _ _ _ _ h2]; simp [hi']
 · simp [List.getD, hi']
theorem foldM_bad (g : List Bool → Int → Option (List Bool)) (ks : List Int) (s s1 : List Bool) (k : Nat) (hk : k < ks.length) (h : (ks.take k).foldlM (fun s k => g s k) s = some s1) (hb : g s1 (ks.getD k 0) = none) : ks.foldlM (fun s k => g s k) s = none := by
 have e : ks = ks.take k ++ (ks.getD k 0 :: ks.drop (k + 1)) := by
  rw [List.getD_eq_getElem?_getD, List.getElem?_eq_getElem hk, Option.getD_some, ← List.drop_eq_getElem_cons hk, List.take_append_drop]
 rw [e, List.foldlM_append, h]
 simp only [Option.bind_eq_bind, Option.bind_some, List.foldlM_cons, hb, Option.bind_none]
theorem foldM_step (g : List Bool → Int → Option (List Bool)) (ks : List Int) (s s1 s2 : List Bool) (k : Nat) (hk : k < ks.length) (h : (ks.take k).foldlM (fun s k => g s k) s = some s1) (hb : g s1 (ks.getD k 0) = some s2) : (ks.take (k + 1)).foldlM (fun s k => g s k) s = some s2 := by
 have e : ks.take (k + 1) = ks.take k ++ [ks.getD k 0] := by
  rw [List.take_succ_eq_append_getElem hk, List.getD_eq_getElem?_getD, List.getElem?_eq_getElem hk, Option.getD_some]
 rw [e, List.foldlM_append, h]
 simp only [Option.bind_eq_bind, Option.bind_some, List.foldlM_cons, hb, List.foldlM_nil]
 rfl
end Go.Proofs.Ytphmlndkjgldkaa
