/- The program's stretch of a kid, its test of entries that ascend, and how many a stretch has. Conditions: texts of at most 2^21 bytes. -/
import Derived.Test.YtphmlndkjgldkaaKq11
namespace Go.Proofs.Ytphmlndkjgldkaa
open Go.RowKit
set_option maxRecDepth 100000
theorem size_st : (Try.prog.info? 121).map (·.size) = some 2 := by kernel_rfl
theorem ptr_at {w0 : World} {a : Option Addr} {es : List En} (h : ReadsE w0 a es) {k : Nat} (hk : k < es.length) (hm : (es.getD k en0).Z.length ≤ 2097152) : ∃ b off, a = some ⟨b, off, none⟩ ∧ PtrE w0 (some (es.getD k en0)) (.pointer (some ⟨b, off + k * 5, none⟩)) := by
 obtain ⟨b, off, a', c, rfl, bx, r, _, _, hf⟩ := h.at hk
 exact ⟨b, off, rfl, b, off + k * 5, a', c, rfl, bx, r, hf, hm⟩
set_option maxHeartbeats 3200000 in
theorem impl_ofKid {w0 : World} {lo hi : Option En} {vl vh : Value} (hl : PtrE w0 lo vl) (hh : PtrE w0 hi vh) {es : List En} {a : Option Addr} {n c g : Nat} {w : World} (hr : ReadsE w0 a es) (hn : es.length = n) (hn4 : n ≤ 4) (hm : ∀ j, (es.getD j en0).Z.length ≤ 2097152) (h2 : w.cell? ⟨g, 2, none⟩ = some (.slice a n c)) (i : Nat) (hi5 : i ≤ 5) (hin : i ≤ n) :
 Calls Try.prog 111 #[.agg #[vl, vh], .pointer (some ⟨g, 0, none⟩), .int .i64 i] w fun e w' => ∃ ul uh, e = .returned (.agg #[ul, uh]) ∧ PtrE w0 (lowAt es lo i) ul ∧ PtrE w0 (highAt es hi i) uh ∧ Below w.heap.size w w' := by
 obtain ⟨ql, rfl⟩ := hl.shape
 obtain ⟨qh, rfl⟩ := hh.shape
 have hB := two w (.cells #[.pointer ql, .pointer qh] 121) (.cells #[.pointer none, .pointer none] 121)
 obtain ⟨R1, R2, z⟩ := two_rows11 w (.cells #[.pointer ql, .pointer qh] 121) (.cells #[.pointer none, .pointer none] 121)
 have hg := World.block_lt_of_cell? w _ h2
 simp only at hg
 have HG2 := hid h2
 have HLo := hid (show lowAt es lo i = if i = 0 then lo else some (es.getD (i - 1) en0) from rfl)
 have HHi := hid (show highAt es hi i = if i < es.length then some (es.getD i en0) else hi from rfl)
 have HL := hid hl
 have HH := hid hh
 have HB := hid hB
 have HR1 := hid R1
 have HR2 := hid R2
 have HZ := hid z
 have HGz := hid hg
 have HN := hid hn
 have HRE := hid hr
 clear hB R1 R2 z h2 hl hh hg hn hr
 go_enter Try.func111, Try.ntmps111
 have k2 : ∀ o1 o2, ((w.alloc o1).alloc o2).cell? ⟨g, 2, none⟩ = some (.slice a n c) := fun o1 o2 => ((two w o1 o2).cell (p := ⟨g, 2, none⟩) HGz.out).trans HG2.out
 have HBB := hid (fun o1 o2 => two w o1 o2)
 have HRR := hid (fun o1 o2 => (two_rows11 w o1 o2).2.1)
 clear HB HR1 HR2 HZ
 by_cases h0 : i = 0
 · subst h0
   have HE1 := hid (show lowAt es lo 0 = lo from HLo.out)
   by_cases hlt : 0 < n
   · have hlt' : (0 : Int) < (n : Int) := by omega
     obtain ⟨b, off, rfl, hp⟩ := ptr_at HRE.out (k := 0) (by rw [HN.out]; exact hlt) (hm 0)
     have HPP := hid hp
     have HE2 := hid (show highAt es hi 0 = some (es.getD 0 en0) by rw [HHi.out, if_pos (by rw [HN.out]; exact hlt)])
     clear hp hm HLo HHi
     go_wp2_with fail
     refine bodyPost_ret (results_cell_row Try.results111 _ _ (w.heap.size + 1) 121 _ (0, 0) _ rfl (HRR.out _ _) Try.underlying121 rfl size_st) rfl ?_
     exact ⟨_, _, rfl, by rw [HE1.out]; exact HL.out, by rw [HE2.out]; simpa using HPP.out, HBB.out _ _⟩
   · obtain rfl : n = 0 := by omega
     have HE2 := hid (show highAt es hi 0 = hi by rw [HHi.out, if_neg (by rw [HN.out]; omega)])
     clear hm HLo HHi
     go_wp2_with fail
     refine bodyPost_ret (results_cell_row Try.results111 _ _ (w.heap.size + 1) 121 _ (0, 0) _ rfl (HRR.out _ _) Try.underlying121 rfl size_st) rfl ?_
     exact ⟨_, _, rfl, by rw [HE1.out]; exact HL.out, by rw [HE2.out]; exact HH.out, HBB.out _ _⟩
 · have h0' : (0 : Int) < (i : Int) := by omega
   have h1' : (i : Int) - 1 < (n : Int) := by omega
   have h2' : (0 : Int) ≤ (i : Int) - 1 := by omega
   have h3' : ((i : Int) - 1).toNat = i - 1 := by omega
   have HE1 := hid (show lowAt es lo i = some (es.getD (i - 1) en0) by rw [HLo.out, if_neg h0])
   obtain ⟨b, off, rfl, hp⟩ := ptr_at HRE.out (k := i - 1) (by rw [HN.out]; omega) (hm _)
   have HPP := hid hp
   by_cases hlt : i < n
   · have hlt' : (i : Int) < (n : Int) := by omega
     obtain ⟨b', off', e', hp'⟩ := ptr_at HRE.out (k := i) (by rw [HN.out]; exact hlt) (hm i)
     obtain ⟨rfl, rfl⟩ : b = b' ∧ off = off' := by simpa using e'
     have HPQ := hid hp'
     have HE2 := hid (show highAt es hi i = some (es.getD i en0) by rw [HHi.out, if_pos (by rw [HN.out]; exact hlt)])
     clear hp hp' e' hm HLo HHi
     go_wp2_with fail
     refine bodyPost_ret (results_cell_row Try.results111 _ _ (w.heap.size + 1) 121 _ (0, 0) _ rfl (HRR.out _ _) Try.underlying121 rfl size_st) rfl ?_
     exact ⟨_, _, rfl, by rw [HE1.out]; exact HPP.out, by rw [HE2.out]; exact HPQ.out, HBB.out _ _⟩
   · have hlt' : ¬ (i : Int) < (n : Int) := by omega
     have HE2 := hid (show highAt es hi i = hi by rw [HHi.out, if_neg (by rw [HN.out]; exact hlt)])
     clear hp hm HLo HHi
     go_wp2_with fail
     refine bodyPost_ret (results_cell_row Try.results111 _ _ (w.heap.size + 1) 121 _ (0, 0) _ rfl (HRR.out _ _) Try.underlying121 rfl size_st) rfl ?_
     exact ⟨_, _, rfl, by rw [HE1.out]; exact HPP.out, by rw [HE2.out]; exact HH.out, HBB.out _ _⟩
def ascAt (es : List En) (i : Nat) : Bool := decide (i = 0) || ltE (es.getD (i - 1) en0) (es.getD i en0)
def ascB (es : List En) : Bool := (List.range es.length).all (ascAt es)
theorem nodeOk_of (lo hi : Option En) (es : List En) : nodeOk lo hi es = (decide (es.countP (hasB lo hi) = es.length) && ascB es) := by
 rw [Bool.eq_iff_iff, Bool.and_eq_true, decide_eq_true_iff, List.countP_eq_length]
 unfold nodeOk ascB
 rw [List.all_eq_true, List.all_eq_true]
 constructor
 · intro h
   refine ⟨fun e he => ?_, fun i hi => ?_⟩
   · obtain ⟨j, hj, rfl⟩ := List.mem_iff_getElem.1 he
     have := h j (List.mem_range.2 hj)
     unfold okAt at this
     rw [Bool.and_eq_true, List.getD_eq_getElem?_getD, List.getElem?_eq_getElem hj] at this
     exact this.1
   · have := h i hi
     unfold okAt at this
     rw [Bool.and_eq_true] at this
     exact this.2
 · rintro ⟨h1, h2⟩ i hi
   unfold okAt
   rw [Bool.and_eq_true]
   refine ⟨h1 _ ?_, h2 i hi⟩
   have hj := List.mem_range.1 hi
   rw [List.getD_eq_getElem?_getD, List.getElem?_eq_getElem hj]
   exact List.getElem_mem hj
theorem countP_take (p : En → Bool) (es : List En) {k : Nat} (hk : k < es.length) : (es.take (k + 1)).countP p = (es.take k).countP p + (if p (es.getD k en0) = true then 1 else 0) := by
 rw [List.take_succ_eq_append_getElem hk, List.countP_append, List.getD_eq_getElem?_getD, List.getElem?_eq_getElem hk]
 simp [List.countP_cons]
set_option maxHeartbeats 3200000 in
theorem impl_count {w0 : World} {lo hi : Option En} {vl vh : Value} (hl : PtrE w0 lo vl) (hh : PtrE w0 hi vh) {es : List En} {a : Option Addr} {n : Nat} (c : Nat) {w : World} (hr : ReadsE w0 a es) (hn : es.length = n) (hn4 : n ≤ 4) (hm : ∀ j, (es.getD j en0).Z.length ≤ 2097152) (hw : Below w0.heap.size w0 w) :
 Calls Try.prog 108 #[.slice a n c, .func (.func 109) #[.agg #[vl, vh]] #[]] w fun e w' => e = .returned (.int .i64 (es.countP (hasB lo hi) : Nat)) ∧ Below w.heap.size w w' := by
 have HL := hid hl
 have HH := hid hh
 have HW := hid hw
 have HN := hid hn
 have HRE := hid hr
 have HM := hid hm
 clear hl hh hw hn hr hm
 go_enter Try.func108, Try.ntmps108
 go_wp2_with fail
 go_loopw [5, 10] (fun t i wr => ∃ k m : Nat, k ≤ n ∧ i = .int .i64 k ∧ t = .int .i64 m ∧ m ≤ k ∧ Hid (m = (es.take k).countP (hasB lo hi)) ∧ Hid (Below w.heap.size w wr)) (fun _ i _ => n - (intOf i).toNat)
 case atStart => exact ⟨0, 0, Nat.zero_le _, rfl, rfl, Nat.le_refl _, hid (by simp), hid (Below.refl _ _)⟩
 case round =>
  obtain ⟨k, m, hk, rfl, rfl, hmk, HC, HB⟩ := hrel
  by_cases hlt : k < n
  · have hlt' : (k : Int) < (n : Int) := by omega
    have hk0 : (0 : Int) ≤ (k : Int) := by omega
    have HT := hid (countP_take (hasB lo hi) es (k := k) (by rw [HN.out]; exact hlt))
    obtain ⟨b, off, a', c', rfl, bx0, r0, _, _, hf⟩ := HRE.out.at (k := k) (by rw [HN.out]; exact hlt)
    have hmz := HM.out k
    have BW := HW.out.trans (HB.out.mono HW.out.size)
    have bx := bx0.below BW (Nat.le_refl _)
    have HR0 := hid r0
    generalize es.getD k en0 = e at *
    obtain ⟨K, N, F, Z, id⟩ := e
    simp only at bx hmz hf
    have HR1 := hid (show Reads w0 a' Z.length Z from HR0.out)
    obtain ⟨z, hz⟩ : ∃ z, Z.length = z := ⟨_, rfl⟩
    rw [hz] at bx hmz HR1
    have HZ := hid hz
    have hst := fun w a m => run_store Try.prog w a (.float .f64 F) m rfl
    have HBX := hid (Below.alloc1 wr (.cells #[.int .i64 K, .int .i64 N, .float .f64 F, .slice a' z c', .int .i64 id] 35))
    have HBW := hid BW
    obtain ⟨c0, c1, c2, c3, c4⟩ := bx
    clear r0 hz bx0 HR0 BW
    go_wp2_with fail
    clear c0 c1 c2 c3 c4
    refine (impl_has HL.out HH.out K N F c' id (HBW.out.trans (HBX.out.mono HBW.out.size)) HR1.out HZ.out hf hmz).mono ?_
    rintro e w1 ⟨rfl, b1⟩
    replace HB := hid ((HB.out.trans (HBX.out.mono HB.out.size)).trans (b1.mono (HB.out.trans (HBX.out.mono HB.out.size)).size))
    clear b1 HBX HBW
    generalize hasB lo hi ⟨K, N, F, Z, id⟩ = X at *
    cases X with
    | false =>
     go_wp2_with fail
     go_roundw
     case rel => exact ⟨k + 1, m, by omega, by go_num, rfl, by omega, hid (by have := HC.out; rw [HT.out]; simp; omega), HB⟩
     case measure => simp [intOf]; omega
    | true =>
     go_wp2_with fail
     go_roundw
     case rel => exact ⟨k + 1, m + 1, by omega, by go_num, by go_num, by omega, hid (by have := HC.out; rw [HT.out]; simp; omega), HB⟩
     case measure => simp [intOf]; omega
  · obtain rfl : k = n := by omega
    go_wp2_with fail
    go_ret
    refine ⟨?_, HB.out⟩
    have e0 : es.take k = es := List.take_of_length_le (by rw [HN.out]; exact Nat.le_refl _)
    have := HC.out
    rw [e0] at this
    rw [this]
    rfl
end Go.Proofs.Ytphmlndkjgldkaa
