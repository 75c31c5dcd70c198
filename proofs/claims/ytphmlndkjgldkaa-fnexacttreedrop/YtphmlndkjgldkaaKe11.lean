/- The contracts of the laws' toNode, szNode, eqNode. Conditions: nodes of at most 2^21 bytes, entries and kids together. -/
import Derived.Test.YtphmlndkjgldkaaKd11
import Derived.Test.YtphmlndkjgldkaaNo9
namespace Go.Proofs.Ytphmlndkjgldkaa
open Go.RowKit
set_option maxRecDepth 100000
theorem Try.infoNd : (Try.prog.info? 67).map (fun i => (i.zero, i.size, i.bytes)) = some (some (.agg #[.bool false, .slice none 0 0, .slice none 0 0]), 3, 56) := by kernel_rfl
theorem size_nd : (Try.prog.info? 67).map (·.size) = some 3 := by kernel_rfl
def szD (d : Nd) : Nat := d.es.length + sumE d.es + d.ks.length
set_option maxHeartbeats 3200000 in
theorem toNode (lf : Bool) {ad : Option Addr} {n : Nat} (cap : Nat) {kd : Option Addr} {m : Nat} (kc : Nat) {es : List En} {ks : List Int} {w : World} (h : ReadsE w ad es) (hk : ReadsI w kd m ks) (hl : es.length = n) (hm : ks.length = m) (hn : n ≤ 2097152) (hs : sumE es ≤ 2097152) (hmm : m ≤ 2097152) :
 Calls Try.prog 104 #[.agg #[.bool lf, .slice ad n cap, .slice kd m kc]] w fun e w' => ∃ g1 g2, e = .returned (.agg #[.bool lf, .slice (some ⟨g1, 0, none⟩) n n, .slice (some ⟨g2, 0, none⟩) m m]) ∧ OwnD1 w' w.heap.size w'.heap.size (.slice (some ⟨g1, 0, none⟩) n n, .slice (some ⟨g2, 0, none⟩) m m) ⟨lf, es, ks⟩ ∧ Below w.heap.size w w' := by
 obtain ⟨z3, r1, r2, b3⟩ := three w (.cells #[.bool lf, .slice ad n cap, .slice kd m kc] 138) (.cells #[.bool false, .slice none 0 0, .slice none 0 0] 67) (.cells #[.bool lf, .slice none 0 0, .slice none 0 0] 67)
 have r0 := three_first w (.cells #[.bool lf, .slice ad n cap, .slice kd m kc] 138) (.cells #[.bool false, .slice none 0 0, .slice none 0 0] 67) (.cells #[.bool lf, .slice none 0 0, .slice none 0 0] 67)
 have H0 := hid r0
 have H1 := hid r1
 have H2 := hid r2
 have HB := hid b3
 have HZ := hid z3
 have HE := hid (h.below b3 (Nat.le_refl _))
 have HK0 := hid hk
 have HKB := hid hk.bd
 clear r0 r1 r2 b3 z3 h hk
 go_enter Try.func104, Try.ntmps104
 go_wp2_with fail
 generalize (((w.alloc (.cells #[.bool lf, .slice ad n cap, .slice kd m kc] 138)).alloc (.cells #[.bool false, .slice none 0 0, .slice none 0 0] 67)).alloc (.cells #[.bool lf, .slice none 0 0, .slice none 0 0] 67)) = X at *
 refine (toEntryS cap HE.out hl hn hs).mono ?_
 rintro e w1 ⟨rfl, oE, b⟩
 have z := HZ.out
 have bs := b.size
 have t0 := (b.block w.heap.size (by omega)).trans H0.out
 have t1 := (b.block (w.heap.size + 1) (by omega)).trans H1.out
 have t2 := (b.block (w.heap.size + 1 + 1) (by omega)).trans H2.out
 have d1 : w1.cell? ⟨(w.heap.size + 1 + 1), 1, none⟩ = some (.slice none 0 0) := by rw [cell_of_row _ _ _ _ _ _ t2]; rfl
 have f1 : w1.frozen? ⟨(w.heap.size + 1 + 1), 1, none⟩ = false := frozen_of_row _ _ _ _ _ t2
 have v2 := heap_setCell_same w1 (w.heap.size + 1 + 1) 1 _ 67 (.slice (some ⟨X.heap.size, 0, none⟩) n n) t2
 have v1 := (heap_setCell_other w1 ⟨(w.heap.size + 1 + 1), 1, none⟩ (w.heap.size + 1) (.slice (some ⟨X.heap.size, 0, none⟩) n n) (by simp)).trans t1
 have v0 := (heap_setCell_other w1 ⟨(w.heap.size + 1 + 1), 1, none⟩ w.heap.size (.slice (some ⟨X.heap.size, 0, none⟩) n n) (by simp; omega)).trans t0
 have c2 : (w1.setCell ⟨(w.heap.size + 1 + 1), 1, none⟩ (.slice (some ⟨X.heap.size, 0, none⟩) n n)).cell? ⟨w.heap.size, 2, none⟩ = some (.slice kd m kc) := by rw [cell_of_row _ _ _ _ _ _ v0]; rfl
 have c2' : w1.cell? ⟨w.heap.size, 2, none⟩ = some (.slice kd m kc) := by rw [cell_of_row _ _ _ _ _ _ t0]; rfl
 have bU := (HB.out.trans (b.mono (by omega))).setCell (p := ⟨(w.heap.size + 1 + 1), 1, none⟩) (by simp; omega) (.slice (some ⟨X.heap.size, 0, none⟩) n n)
 have gU := grown_set11 w1 (w.heap.size + 1 + 1) 1 (.slice (some ⟨X.heap.size, 0, none⟩) n n)
 have zU : (w1.setCell ⟨(w.heap.size + 1 + 1), 1, none⟩ (.slice (some ⟨X.heap.size, 0, none⟩) n n)).heap.size = w1.heap.size := set_size _ _ _
 have OE := hid (show OwnE (w1.setCell ⟨(w.heap.size + 1 + 1), 1, none⟩ (.slice (some ⟨X.heap.size, 0, none⟩) n n)) X.heap.size w1.heap.size (.slice (some ⟨X.heap.size, 0, none⟩) n n) es from oE.agree (fun k k1 k2 => gU.block k k2 (by simp; omega)))
 have HK1 := hid (HK0.out.below bU (Nat.le_refl _))
 have V1 := hid v1
 have V2 := hid v2
 have BU := hid bU
 have ZU := hid zU
 have ZB := hid bs
 clear t0 t1 t2 v0 v1 v2 bU gU zU oE b H0 H1 H2 HB z bs
 go_wp2_with fail
 clear d1 f1 c2 c2'
 generalize w1.setCell ⟨(w.heap.size + 1 + 1), 1, none⟩ (.slice (some ⟨X.heap.size, 0, none⟩) n n) = U at *
 refine (toIntS_any kc HK1.out hmm).mono ?_
 rintro e w2 ⟨rfl, oK, b⟩
 have bs2 := b.size
 have zu := ZU.out
 have z := HZ.out
 have bs := ZB.out
 have t1 := (b.block (w.heap.size + 1) (by omega)).trans V1.out
 have t2 := (b.block (w.heap.size + 1 + 1) (by omega)).trans V2.out
 have d2 : w2.cell? ⟨(w.heap.size + 1 + 1), 2, none⟩ = some (.slice none 0 0) := by rw [cell_of_row _ _ _ _ _ _ t2]; rfl
 have f2 : w2.frozen? ⟨(w.heap.size + 1 + 1), 2, none⟩ = false := frozen_of_row _ _ _ _ _ t2
 have y2 := heap_setCell_same w2 (w.heap.size + 1 + 1) 2 _ 67 (.slice (some ⟨U.heap.size, 0, none⟩) m m) t2
 have y1 := (heap_setCell_other w2 ⟨(w.heap.size + 1 + 1), 2, none⟩ (w.heap.size + 1) (.slice (some ⟨U.heap.size, 0, none⟩) m m) (by simp)).trans t1
 have gA := grown_set11 w2 (w.heap.size + 1 + 1) 2 (.slice (some ⟨U.heap.size, 0, none⟩) m m)
 have gB := row_grown11 (w2.setCell ⟨(w.heap.size + 1 + 1), 2, none⟩ (.slice (some ⟨U.heap.size, 0, none⟩) m m)) (w.heap.size + 1) #[.bool lf, .slice (some ⟨X.heap.size, 0, none⟩) n n, .slice (some ⟨U.heap.size, 0, none⟩) m m]
 have B4 := hid (below_setRow ((BU.out.trans (b.mono (by omega))).setCell (p := ⟨(w.heap.size + 1 + 1), 2, none⟩) (by simp; omega) (.slice (some ⟨U.heap.size, 0, none⟩) m m)) (show w.heap.size ≤ (w.heap.size + 1) by omega) #[.bool lf, .slice (some ⟨X.heap.size, 0, none⟩) n n, .slice (some ⟨U.heap.size, 0, none⟩) m m])
 have OE2 := hid ((OE.out.agree (w' := (w2.setCell ⟨(w.heap.size + 1 + 1), 2, none⟩ (.slice (some ⟨U.heap.size, 0, none⟩) m m)).setRow (w.heap.size + 1) #[.bool lf, .slice (some ⟨X.heap.size, 0, none⟩) n n, .slice (some ⟨U.heap.size, 0, none⟩) m m]) (fun k k1 k2 => by
  rw [gB.block k (by rw [set_size]; omega) (by simp; omega), gA.block k (by omega) (by simp; omega), b.block k (by omega)])).mono (lo' := w.heap.size) (by omega) (Nat.le_refl _))
 have OK2 := hid ((oK.kept gA (.inr (by simp [Value.ownBlock]; omega))).kept gB (.inr (by simp [Value.ownBlock]; omega)))
 have HSZ := hid (show w.heap.size ≤ w1.heap.size ∧ w1.heap.size = U.heap.size ∧ U.heap.size < ((w2.setCell ⟨(w.heap.size + 1 + 1), 2, none⟩ (.slice (some ⟨U.heap.size, 0, none⟩) m m)).setRow (w.heap.size + 1) #[.bool lf, .slice (some ⟨X.heap.size, 0, none⟩) n n, .slice (some ⟨U.heap.size, 0, none⟩) m m]).heap.size by
  have h1 := (oK.lt U.heap.size rfl).2
  have h2 := gA.size
  have h3 := gB.size
  omega)
 have Y1 := hid y1
 have Y2 := hid y2
 clear t1 t2 y1 y2 gA gB oK b bs2 zu z bs V1 V2 OE BU ZU
 go_wp2_with (first
  | (refine wpList_load_row rfl 67 (.tmp 3) rfl (w.heap.size + 1 + 1) rfl 67 _ (0, 0) _ Y2.out Try.underlying67 rfl size_nd ?_)
  | (refine wpList_store_row rfl 67 (.tmp 2) (.tmp 15) rfl (w.heap.size + 1) #[.bool lf, .slice (some ⟨X.heap.size, 0, none⟩) n n, .slice (some ⟨U.heap.size, 0, none⟩) m m] rfl rfl 67 _ Y1.out ?s7 ?s8 ?s9 ?_))
 case s7 => exact size_nd
 case s8 => rfl
 case s9 => simp [Value.oneCell']
 have hsz := HSZ.out
 refine bodyPost_ret (results_cell_row Try.results104 _ _ (w.heap.size + 1) 67 _ (0, 0) _ rfl (setRow_heap _ _ _ _ _ _ Y1.out) Try.underlying67 rfl size_nd) rfl ⟨X.heap.size, U.heap.size, rfl, ⟨w1.heap.size, hsz.1, by omega, OE2.out, ?_⟩, B4.out⟩
 refine ⟨?_, fun g hg => ?_, HKB.out⟩
 · rw [hsz.2.1, hm]; exact OK2.out
 · have : g = U.heap.size := by simpa [Value.ownBlock] using hg.symm
   omega
set_option maxHeartbeats 1600000 in
theorem szNode (lf : Bool) {ad : Option Addr} {n : Nat} (cap : Nat) (kd : Option Addr) (m kc : Nat) {es : List En} {w : World} (h : ReadsE w ad es) (hl : es.length = n) (hn : n ≤ 9223372036854775807) (hmm : m ≤ 9223372036854775807) (left : Int) (h0 : 0 ≤ left) (h1 : left ≤ 1048576) :
 Calls Try.prog 102 #[.agg #[.bool lf, .slice ad n cap, .slice kd m kc], .int .i64 left] w fun e w' => e = .returned (.int .i64 (lft11 left (n + sumE es + m))) ∧ Below w.heap.size w w' := by
 have hB := Below.alloc1 w (.cells #[.bool lf, .slice ad n cap, .slice kd m kc] 138)
 have R0 := hid (heap_alloc_new w (.cells #[.bool lf, .slice ad n cap, .slice kd m kc] 138))
 have H1 := hid (h.below hB (Nat.le_refl _))
 have HB := hid hB
 have HZ := hid (alloc_size w (.cells #[.bool lf, .slice ad n cap, .slice kd m kc] 138))
 obtain ⟨M, hM⟩ : ∃ M : Int, lft11 left (n + sumE es) = M := ⟨_, rfl⟩
 have hM0 : (M = -1 ∧ left < (n + sumE es : Nat)) ∨ (0 ≤ M ∧ M ≤ 1048576 ∧ M = left - (n + sumE es : Nat)) := by
  unfold lft11 at hM
  by_cases hh : left < (n + sumE es : Nat)
  · rw [if_pos hh] at hM; exact .inl ⟨hM.symm, hh⟩
  · rw [if_neg hh] at hM; exact .inr ⟨by omega, by omega, hM.symm⟩
 have HM := hid hM
 have HM0 := hid hM0
 clear hM hM0 hB h
 go_enter Try.func102, Try.ntmps102
 go_wp2_with fail
 refine (szEntryS cap H1.out hl hn left h0 h1).mono ?_
 rintro e w1 ⟨rfl, b⟩
 rw [HM.out]
 have hz := HZ.out
 have c2 : w1.cell? ⟨w.heap.size, 2, none⟩ = some (.slice kd m kc) := by rw [cell_of_row _ _ _ _ _ _ ((b.block w.heap.size (by omega)).trans R0.out)]; rfl
 replace HB := hid (HB.out.trans (b.mono HB.out.size))
 clear b hz
 rcases HM0.out with ⟨rfl, hq⟩ | ⟨hq0, hq1, hq2⟩
 · go_wp2_with fail
   go_ret
   exact ⟨by unfold lft11; rw [if_pos (by omega)]; rfl, HB.out⟩
 · have hq3 : ¬ M < 0 := by omega
   have HQ2 := hid hq2
   clear hq2
   go_wp2_with fail
   refine (szIntS kd m kc M hmm hq0 hq1 w1).mono ?_
   rintro e w2 ⟨rfl, e1⟩
   subst e1
   obtain ⟨Y, hY⟩ : ∃ Y : Int, lft9 M m = Y := ⟨_, rfl⟩
   rw [hY]
   have HY := hid hY
   have HG := hid (show lft11 left (n + sumE es + m) = Y by
    rw [← hY]
    have := HQ2.out
    unfold lft11 lft9
    by_cases hh : M < m
    · rw [if_pos (by omega), if_pos hh]
    · rw [if_neg (by omega), if_neg hh]; omega)
   have hY0 : Y < 0 → Y = -1 := by unfold lft9 at hY; split at hY <;> omega
   have HY0 := hid hY0
   clear hY hY0 c2
   by_cases hq : Y < 0
   · go_wp2_with fail
     go_ret
     exact ⟨by rw [HG.out, HY0.out hq]; rfl, HB.out⟩
   · go_wp2_with fail
     go_ret
     exact ⟨by rw [HG.out]; rfl, HB.out⟩
set_option maxHeartbeats 3200000 in
theorem eqNode (lf : Bool) {ad bd : Option Addr} {n : Nat} (cap cp : Nat) {kd ld : Option Addr} {m : Nat} (kc lc : Nat) {es : List En} {ks : List Int} {w : World} (h : ReadsE w ad es) (h' : ReadsE w bd es) (hk : ReadsI w kd m ks) (hk' : ReadsI w ld m ks) (hl : es.length = n) (hn : n ≤ 2097152) (hs : sumE es ≤ 2097152) (hmm : m ≤ 2097152) :
 Calls Try.prog 101 #[.agg #[.bool lf, .slice ad n cap, .slice kd m kc], .agg #[.bool lf, .slice bd n cp, .slice ld m lc]] w fun e w' => e = .returned (.bool true) ∧ Below w.heap.size w w' := by
 have hB := two w (.cells #[.bool lf, .slice ad n cap, .slice kd m kc] 67) (.cells #[.bool lf, .slice bd n cp, .slice ld m lc] 67)
 obtain ⟨R1, R2, z⟩ := two_rows11 w (.cells #[.bool lf, .slice ad n cap, .slice kd m kc] 67) (.cells #[.bool lf, .slice bd n cp, .slice ld m lc] 67)
 have H1 := hid (h.below hB (Nat.le_refl _))
 have H2 := hid (h'.below hB (Nat.le_refl _))
 have K1 := hid (hk.below hB (Nat.le_refl _))
 have K2 := hid (hk'.below hB (Nat.le_refl _))
 have HB := hid hB
 have HR1 := hid R1
 have HR2 := hid R2
 have HZ := hid z
 have q0 : (lf != lf) = false := by simp
 clear hB R1 R2 z h h' hk hk'
 go_enter Try.func101, Try.ntmps101
 go_wp2_with fail
 refine (eqEntryS cap cp H1.out H2.out hl hn hs).mono ?_
 rintro e w2 ⟨rfl, b⟩
 have hz := HZ.out
 have c1 : w2.cell? ⟨w.heap.size, 2, none⟩ = some (.slice kd m kc) := by rw [cell_of_row _ _ _ _ _ _ ((b.block w.heap.size (by omega)).trans HR1.out)]; rfl
 have c2 : w2.cell? ⟨w.heap.size + 1, 2, none⟩ = some (.slice ld m lc) := by rw [cell_of_row _ _ _ _ _ _ ((b.block (w.heap.size + 1) (by omega)).trans HR2.out)]; rfl
 replace HB := hid (HB.out.trans (b.mono HB.out.size))
 replace K1 := hid (K1.out.below b (Nat.le_refl _))
 replace K2 := hid (K2.out.below b (Nat.le_refl _))
 clear b hz
 go_wp2_with fail
 refine (eqIntS_any kc lc K1.out K2.out hmm).mono ?_
 rintro e w3 ⟨rfl, st⟩
 replace HB := hid (HB.out.trans (st.below _))
 clear st c1 c2
 go_wp2_with fail
 go_ret
 exact ⟨rfl, HB.out⟩
end Go.Proofs.Ytphmlndkjgldkaa
