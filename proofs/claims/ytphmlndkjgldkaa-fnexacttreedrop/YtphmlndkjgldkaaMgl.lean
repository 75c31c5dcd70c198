/- Texts of this proof in one: No9 Ke11 Kf11 Kg11. -/
import Derived.Test.YtphmlndkjgldkaaMgb
import Derived.Test.YtphmlndkjgldkaaMga
import Derived.Laws.Tables
import Derived.Deep.RegionHeld3
import Derived.Test.YtphmlndkjgldkaaMgd
import Derived.Test.YtphmlndkjgldkaaMgc
/- The contracts of the laws' toSnap, szSnap, eqSnap, toSnapS, szSnapS, eqSnapS. Conditions: lists of at most 2^21 numbers together. -/





namespace Go.Proofs.Ytphmlndkjgldkaa
open Go.RowKit
set_option maxRecDepth 100000
def lft9 (left : Int) (n : Nat) : Int := if left < n then -1 else left - n
theorem szIntS (ad : Option Addr) (n cap : Nat) (left : Int) (hn : n ≤ 9223372036854775807) (h0 : 0 ≤ left) (h1 : left ≤ 1048576) (w : World) :
 Calls Try.prog 124 #[.slice ad n cap, .int .i64 left] w fun e w' => e = .returned (.int .i64 (lft9 left n)) ∧ w' = w := by
 unfold lft9
 have a1 : (0 : Int) ≤ (n : Int) := by omega
 have a2 : (n : Int) ≤ 9223372036854775807 := by omega
 by_cases h : left < n
 · rw [if_pos h]
   have q : left - (n : Int) < 0 := by omega
   go_enter Try.func124, Try.ntmps124
   go_wp2
   go_ret
   exact ⟨rfl, rfl⟩
 · rw [if_neg h]
   have q : ¬ left - (n : Int) < 0 := by omega
   go_enter Try.func124, Try.ntmps124
   go_wp2
   go_ret
   exact ⟨rfl, rfl⟩
end Go.Proofs.Ytphmlndkjgldkaa
/- The contracts of the laws' toNode, szNode, eqNode. Conditions: nodes of at most 2^21 bytes, entries and kids together. -/


namespace Go.Proofs.Ytphmlndkjgldkaa
open Go.RowKit
set_option maxRecDepth 100000
theorem Try.infoNd : (Try.prog.info? 67).map (fun i => (i.zero, i.size, i.bytes)) = some (some (.agg #[.bool false, .slice none 0 0, .slice none 0 0]), 3, 56) := by kernel_rfl
theorem size_nd : (Try.prog.info? 67).map (·.size) = some 3 := by kernel_rfl
def szD (d : Nd) : Nat := d.es.length + sumE d.es + d.ks.length
set_option maxHeartbeats 3200000 in
theorem toNode (lf : Bool) {ad : Option Addr} {n : Nat} (cap : Nat) {kd : Option Addr} {m : Nat} (kc : Nat) {es : List En} {ks : List Int} {w : World} (h : ReadsE w ad es) (hk : ReadsI w kd m ks) (hl : es.length = n) (hm : ks.length = m) (hn : n ≤ 2097152) (hs : sumE es ≤ 2097152) (hmm : m ≤ 2097152) :
 Calls Try.prog 104 #[.agg #[.bool lf, .slice ad n cap, .slice kd m kc]] w fun e w' => ∃ g1 g2, e = .returned (.agg #[.bool lf, .slice (some ⟨g1, 0, none⟩) n n, .slice (some ⟨g2, 0, none⟩) m m]) ∧ OwnD1 w' w.heap.size w'.heap.size (.slice (some ⟨g1, 0, none⟩) n n, .slice (some ⟨g2, 0, none⟩) m m) ⟨lf, es, ks⟩ ∧ Below w.heap.size w w' := by
 obtain ⟨z3, r1, r2, b3⟩ := three w (.cells #[.bool lf, .slice ad n cap, .slice kd m kc] 138) (.cells #[.bool false, .slice none 0 0, .slice none 0 0] 67) (.cells #[.bool lf, .slice none 0 0, .slice none 0 0] 67)
 have r0 := three_first w (.cells #[.bool lf, .slice ad n cap, .slice kd m kc] 138) (.cells #[.bool false, .slice none 0 0, .slice none 0 0] 67) (.cells #[.bool lf, .slice none 0 0, .slice none 0 0] 67)
 have H0 := hid r0
 have H1 := hid r1
 have H2 := hid r2
 have HB := hid b3
 have HZ := hid z3
 have HE := hid (h.below b3 (Nat.le_refl _))
 have HK0 := hid hk
 have HKB := hid hk.bd
 clear r0 r1 r2 b3 z3 h hk
 go_enter Try.func104, Try.ntmps104
 go_wp2_with fail
 generalize (((w.alloc (.cells #[.bool lf, .slice ad n cap, .slice kd m kc] 138)).alloc (.cells #[.bool false, .slice none 0 0, .slice none 0 0] 67)).alloc (.cells #[.bool lf, .slice none 0 0, .slice none 0 0] 67)) = X at *
 refine (toEntryS cap HE.out hl hn hs).mono ?_
 rintro e w1 ⟨rfl, oE, b⟩
 have z := HZ.out
 have bs := b.size
 have t0 := (b.block w.heap.size (by omega)).trans H0.out
 have t1 := (b.block (w.heap.size + 1) (by omega)).trans H1.out
 have t2 := (b.block (w.heap.size + 1 + 1) (by omega)).trans H2.out
 have d1 : w1.cell? ⟨(w.heap.size + 1 + 1), 1, none⟩ = some (.slice none 0 0) := by rw [cell_of_row _ _ _ _ _ _ t2]; rfl
 have f1 : w1.frozen? ⟨(w.heap.size + 1 + 1), 1, none⟩ = false := frozen_of_row _ _ _ _ _ t2
 have v2 := heap_setCell_same w1 (w.heap.size + 1 + 1) 1 _ 67 (.slice (some ⟨X.heap.size, 0, none⟩) n n) t2
 have v1 := (heap_setCell_other w1 ⟨(w.heap.size + 1 + 1), 1, none⟩ (w.heap.size + 1) (.slice (some ⟨X.heap.size, 0, none⟩) n n) (by simp)).trans t1
 have v0 := (heap_setCell_other w1 ⟨(w.heap.size + 1 + 1), 1, none⟩ w.heap.size (.slice (some ⟨X.heap.size, 0, none⟩) n n) (by simp; omega)).trans t0
 have c2 : (w1.setCell ⟨(w.heap.size + 1 + 1), 1, none⟩ (.slice (some ⟨X.heap.size, 0, none⟩) n n)).cell? ⟨w.heap.size, 2, none⟩ = some (.slice kd m kc) := by rw [cell_of_row _ _ _ _ _ _ v0]; rfl
 have c2' : w1.cell? ⟨w.heap.size, 2, none⟩ = some (.slice kd m kc) := by rw [cell_of_row _ _ _ _ _ _ t0]; rfl
 have bU := (HB.out.trans (b.mono (by omega))).setCell (p := ⟨(w.heap.size + 1 + 1), 1, none⟩) (by simp; omega) (.slice (some ⟨X.heap.size, 0, none⟩) n n)
 have gU := grown_set11 w1 (w.heap.size + 1 + 1) 1 (.slice (some ⟨X.heap.size, 0, none⟩) n n)
 have zU : (w1.setCell ⟨(w.heap.size + 1 + 1), 1, none⟩ (.slice (some ⟨X.heap.size, 0, none⟩) n n)).heap.size = w1.heap.size := set_size _ _ _
 have OE := hid (show OwnE (w1.setCell ⟨(w.heap.size + 1 + 1), 1, none⟩ (.slice (some ⟨X.heap.size, 0, none⟩) n n)) X.heap.size w1.heap.size (.slice (some ⟨X.heap.size, 0, none⟩) n n) es from oE.agree (fun k k1 k2 => gU.block k k2 (by simp; omega)))
 have HK1 := hid (HK0.out.below bU (Nat.le_refl _))
 have V1 := hid v1
 have V2 := hid v2
 have BU := hid bU
 have ZU := hid zU
 have ZB := hid bs
 clear t0 t1 t2 v0 v1 v2 bU gU zU oE b H0 H1 H2 HB z bs
 go_wp2_with fail
 clear d1 f1 c2 c2'
 generalize w1.setCell ⟨(w.heap.size + 1 + 1), 1, none⟩ (.slice (some ⟨X.heap.size, 0, none⟩) n n) = U at *
 refine (toIntS_any kc HK1.out hmm).mono ?_
 rintro e w2 ⟨rfl, oK, b⟩
 have bs2 := b.size
 have zu := ZU.out
 have z := HZ.out
 have bs := ZB.out
 have t1 := (b.block (w.heap.size + 1) (by omega)).trans V1.out
 have t2 := (b.block (w.heap.size + 1 + 1) (by omega)).trans V2.out
 have d2 : w2.cell? ⟨(w.heap.size + 1 + 1), 2, none⟩ = some (.slice none 0 0) := by rw [cell_of_row _ _ _ _ _ _ t2]; rfl
 have f2 : w2.frozen? ⟨(w.heap.size + 1 + 1), 2, none⟩ = false := frozen_of_row _ _ _ _ _ t2
 have y2 := heap_setCell_same w2 (w.heap.size + 1 + 1) 2 _ 67 (.slice (some ⟨U.heap.size, 0, none⟩) m m) t2
 have y1 := (heap_setCell_other w2 ⟨(w.heap.size + 1 + 1), 2, none⟩ (w.heap.size + 1) (.slice (some ⟨U.heap.size, 0, none⟩) m m) (by simp)).trans t1
 have gA := grown_set11 w2 (w.heap.size + 1 + 1) 2 (.slice (some ⟨U.heap.size, 0, none⟩) m m)
 have gB := row_grown11 (w2.setCell ⟨(w.heap.size + 1 + 1), 2, none⟩ (.slice (some ⟨U.heap.size, 0, none⟩) m m)) (w.heap.size + 1) #[.bool lf, .slice (some ⟨X.heap.size, 0, none⟩) n n, .slice (some ⟨U.heap.size, 0, none⟩) m m]
 have B4 := hid (below_setRow ((BU.out.trans (b.mono (by omega))).setCell (p := ⟨(w.heap.size + 1 + 1), 2, none⟩) (by simp; omega) (.slice (some ⟨U.heap.size, 0, none⟩) m m)) (show w.heap.size ≤ (w.heap.size + 1) by omega) #[.bool lf, .slice (some ⟨X.heap.size, 0, none⟩) n n, .slice (some ⟨U.heap.size, 0, none⟩) m m])
 have OE2 := hid ((OE.out.agree (w' := (w2.setCell ⟨(w.heap.size + 1 + 1), 2, none⟩ (.slice (some ⟨U.heap.size, 0, none⟩) m m)).setRow (w.heap.size + 1) #[.bool lf, .slice (some ⟨X.heap.size, 0, none⟩) n n, .slice (some ⟨U.heap.size, 0, none⟩) m m]) (fun k k1 k2 => by
  rw [gB.block k (by rw [set_size]; omega) (by simp; omega), gA.block k (by omega) (by simp; omega), b.block k (by omega)])).mono (lo' := w.heap.size) (by omega) (Nat.le_refl _))
 have OK2 := hid ((oK.kept gA (.inr (by simp [Value.ownBlock]; omega))).kept gB (.inr (by simp [Value.ownBlock]; omega)))
 have HSZ := hid (show w.heap.size ≤ w1.heap.size ∧ w1.heap.size = U.heap.size ∧ U.heap.size < ((w2.setCell ⟨(w.heap.size + 1 + 1), 2, none⟩ (.slice (some ⟨U.heap.size, 0, none⟩) m m)).setRow (w.heap.size + 1) #[.bool lf, .slice (some ⟨X.heap.size, 0, none⟩) n n, .slice (some ⟨U.heap.size, 0, none⟩) m m]).heap.size by
  have h1 := (oK.lt U.heap.size rfl).2
  have h2 := gA.size
  have h3 := gB.size
  omega)
 have Y1 := hid y1
 have Y2 := hid y2
 clear t1 t2 y1 y2 gA gB oK b bs2 zu z bs V1 V2 OE BU ZU
 go_wp2_with (first
  | (refine wpList_load_row rfl 67 (.tmp 3) rfl (w.heap.size + 1 + 1) rfl 67 _ (0, 0) _ Y2.out Try.underlying67 rfl size_nd ?_)
  | (refine wpList_store_row rfl 67 (.tmp 2) (.tmp 15) rfl (w.heap.size + 1) #[.bool lf, .slice (some ⟨X.heap.size, 0, none⟩) n n, .slice (some ⟨U.heap.size, 0, none⟩) m m] rfl rfl 67 _ Y1.out ?s7 ?s8 ?s9 ?_))
 case s7 => exact size_nd
 case s8 => rfl
 case s9 => simp [Value.oneCell']
 have hsz := HSZ.out
 refine bodyPost_ret (results_cell_row Try.results104 _ _ (w.heap.size + 1) 67 _ (0, 0) _ rfl (setRow_heap _ _ _ _ _ _ Y1.out) Try.underlying67 rfl size_nd) rfl ⟨X.heap.size, U.heap.size, rfl, ⟨w1.heap.size, hsz.1, by omega, OE2.out, ?_⟩, B4.out⟩
 refine ⟨?_, fun g hg => ?_, HKB.out⟩
 · rw [hsz.2.1, hm]; exact OK2.out
 · have : g = U.heap.size := by simpa [Value.ownBlock] using hg.symm
   omega
set_option maxHeartbeats 1600000 in
theorem szNode (lf : Bool) {ad : Option Addr} {n : Nat} (cap : Nat) (kd : Option Addr) (m kc : Nat) {es : List En} {w : World} (h : ReadsE w ad es) (hl : es.length = n) (hn : n ≤ 9223372036854775807) (hmm : m ≤ 9223372036854775807) (left : Int) (h0 : 0 ≤ left) (h1 : left ≤ 1048576) :
 Calls Try.prog 102 #[.agg #[.bool lf, .slice ad n cap, .slice kd m kc], .int .i64 left] w fun e w' => e = .returned (.int .i64 (lft11 left (n + sumE es + m))) ∧ Below w.heap.size w w' := by
 have hB := Below.alloc1 w (.cells #[.bool lf, .slice ad n cap, .slice kd m kc] 138)
 have R0 := hid (heap_alloc_new w (.cells #[.bool lf, .slice ad n cap, .slice kd m kc] 138))
 have H1 := hid (h.below hB (Nat.le_refl _))
 have HB := hid hB
 have HZ := hid (alloc_size w (.cells #[.bool lf, .slice ad n cap, .slice kd m kc] 138))
 obtain ⟨M, hM⟩ : ∃ M : Int, lft11 left (n + sumE es) = M := ⟨_, rfl⟩
 have hM0 : (M = -1 ∧ left < (n + sumE es : Nat)) ∨ (0 ≤ M ∧ M ≤ 1048576 ∧ M = left - (n + sumE es : Nat)) := by
  unfold lft11 at hM
  by_cases hh : left < (n + sumE es : Nat)
  · rw [if_pos hh] at hM; exact .inl ⟨hM.symm, hh⟩
  · rw [if_neg hh] at hM; exact .inr ⟨by omega, by omega, hM.symm⟩
 have HM := hid hM
 have HM0 := hid hM0
 clear hM hM0 hB h
 go_enter Try.func102, Try.ntmps102
 go_wp2_with fail
 refine (szEntryS cap H1.out hl hn left h0 h1).mono ?_
 rintro e w1 ⟨rfl, b⟩
 rw [HM.out]
 have hz := HZ.out
 have c2 : w1.cell? ⟨w.heap.size, 2, none⟩ = some (.slice kd m kc) := by rw [cell_of_row _ _ _ _ _ _ ((b.block w.heap.size (by omega)).trans R0.out)]; rfl
 replace HB := hid (HB.out.trans (b.mono HB.out.size))
 clear b hz
 rcases HM0.out with ⟨rfl, hq⟩ | ⟨hq0, hq1, hq2⟩
 · go_wp2_with fail
   go_ret
   exact ⟨by unfold lft11; rw [if_pos (by omega)]; rfl, HB.out⟩
 · have hq3 : ¬ M < 0 := by omega
   have HQ2 := hid hq2
   clear hq2
   go_wp2_with fail
   refine (szIntS kd m kc M hmm hq0 hq1 w1).mono ?_
   rintro e w2 ⟨rfl, e1⟩
   subst e1
   obtain ⟨Y, hY⟩ : ∃ Y : Int, lft9 M m = Y := ⟨_, rfl⟩
   rw [hY]
   have HY := hid hY
   have HG := hid (show lft11 left (n + sumE es + m) = Y by
    rw [← hY]
    have := HQ2.out
    unfold lft11 lft9
    by_cases hh : M < m
    · rw [if_pos (by omega), if_pos hh]
    · rw [if_neg (by omega), if_neg hh]; omega)
   have hY0 : Y < 0 → Y = -1 := by unfold lft9 at hY; split at hY <;> omega
   have HY0 := hid hY0
   clear hY hY0 c2
   by_cases hq : Y < 0
   · go_wp2_with fail
     go_ret
     exact ⟨by rw [HG.out, HY0.out hq]; rfl, HB.out⟩
   · go_wp2_with fail
     go_ret
     exact ⟨by rw [HG.out]; rfl, HB.out⟩
set_option maxHeartbeats 3200000 in
theorem eqNode (lf : Bool) {ad bd : Option Addr} {n : Nat} (cap cp : Nat) {kd ld : Option Addr} {m : Nat} (kc lc : Nat) {es : List En} {ks : List Int} {w : World} (h : ReadsE w ad es) (h' : ReadsE w bd es) (hk : ReadsI w kd m ks) (hk' : ReadsI w ld m ks) (hl : es.length = n) (hn : n ≤ 2097152) (hs : sumE es ≤ 2097152) (hmm : m ≤ 2097152) :
 Calls Try.prog 101 #[.agg #[.bool lf, .slice ad n cap, .slice kd m kc], .agg #[.bool lf, .slice bd n cp, .slice ld m lc]] w fun e w' => e = .returned (.bool true) ∧ Below w.heap.size w w' := by
 have hB := two w (.cells #[.bool lf, .slice ad n cap, .slice kd m kc] 67) (.cells #[.bool lf, .slice bd n cp, .slice ld m lc] 67)
 obtain ⟨R1, R2, z⟩ := two_rows11 w (.cells #[.bool lf, .slice ad n cap, .slice kd m kc] 67) (.cells #[.bool lf, .slice bd n cp, .slice ld m lc] 67)
 have H1 := hid (h.below hB (Nat.le_refl _))
 have H2 := hid (h'.below hB (Nat.le_refl _))
 have K1 := hid (hk.below hB (Nat.le_refl _))
 have K2 := hid (hk'.below hB (Nat.le_refl _))
 have HB := hid hB
 have HR1 := hid R1
 have HR2 := hid R2
 have HZ := hid z
 have q0 : (lf != lf) = false := by simp
 clear hB R1 R2 z h h' hk hk'
 go_enter Try.func101, Try.ntmps101
 go_wp2_with fail
 refine (eqEntryS cap cp H1.out H2.out hl hn hs).mono ?_
 rintro e w2 ⟨rfl, b⟩
 have hz := HZ.out
 have c1 : w2.cell? ⟨w.heap.size, 2, none⟩ = some (.slice kd m kc) := by rw [cell_of_row _ _ _ _ _ _ ((b.block w.heap.size (by omega)).trans HR1.out)]; rfl
 have c2 : w2.cell? ⟨w.heap.size + 1, 2, none⟩ = some (.slice ld m lc) := by rw [cell_of_row _ _ _ _ _ _ ((b.block (w.heap.size + 1) (by omega)).trans HR2.out)]; rfl
 replace HB := hid (HB.out.trans (b.mono HB.out.size))
 replace K1 := hid (K1.out.below b (Nat.le_refl _))
 replace K2 := hid (K2.out.below b (Nat.le_refl _))
 clear b hz
 go_wp2_with fail
 refine (eqIntS_any kc lc K1.out K2.out hmm).mono ?_
 rintro e w3 ⟨rfl, st⟩
 replace HB := hid (HB.out.trans (st.below _))
 clear st c1 c2
 go_wp2_with fail
 go_ret
 exact ⟨rfl, HB.out⟩
end Go.Proofs.Ytphmlndkjgldkaa
/- The contracts of the laws' toNodeS, szNodeS, eqNodeS, toTree, szTree, eqTree. Conditions: trees of at most 2^21 bytes, entries, kids and nodes together. -/

namespace Go.Proofs.Ytphmlndkjgldkaa
open Go.RowKit
set_option maxRecDepth 100000
def sumD (f : Nd → Nat) : List Nd → Nat
 | [] => 0
 | d :: ds => f d + sumD f ds
theorem sumD_app (f : Nd → Nat) : ∀ a b : List Nd, sumD f (a ++ b) = sumD f a + sumD f b
 | [], b => by simp [sumD]
 | p :: a, b => by simp [sumD, sumD_app f a b]; omega
theorem take_snocD (ds : List Nd) (k : Nat) (h : k < ds.length) : ds.take (k + 1) = ds.take k ++ [ds.getD k nd0] := by
 rw [List.take_add_one, List.getElem?_eq_getElem h, Option.toList_some]
 simp [List.getD, h]
theorem sumD_step (f : Nd → Nat) (ds : List Nd) (k : Nat) (h : k < ds.length) : sumD f (ds.take (k + 1)) = sumD f (ds.take k) + f (ds.getD k nd0) := by
 rw [take_snocD ds k h, sumD_app]; simp [sumD]
theorem sumD_take (f : Nd → Nat) (ds : List Nd) (k : Nat) : sumD f (ds.take k) ≤ sumD f ds := by
 have : sumD f ds = sumD f (ds.take k ++ ds.drop k) := by rw [List.take_append_drop]
 rw [this, sumD_app]; omega
theorem sumD_at (f : Nd → Nat) (ds : List Nd) (k : Nat) (h : k < ds.length) : f (ds.getD k nd0) ≤ sumD f ds := by
 have h1 := sumD_step f ds k h
 have h2 := sumD_take f ds (k + 1)
 omega
set_option maxHeartbeats 3200000 in
theorem toNodeS {ad : Option Addr} {n : Nat} (cap : Nat) {ds : List Nd} {w : World} (h : ReadsD w ad ds) (hl : ds.length = n) (hn : n ≤ 2097152) (hs : sumD szD ds ≤ 2097152) :
 Calls Try.prog 69 #[.slice ad n cap] w fun e w' => e = .returned (.slice (some ⟨w.heap.size, 0, none⟩) n n) ∧ OwnD w' w.heap.size w'.heap.size (.slice (some ⟨w.heap.size, 0, none⟩) n n) ds ∧ Below w.heap.size w w' := by
 obtain ⟨i0, hi, hz0, hz1, hz2⟩ := info_parts Try.infoNd
 go_enter Try.func69, Try.ntmps69
 go_wp2_with (at_make; refine wpList_make_full _ rfl _ _ 24 rfl w.heap.size 67 i0 (.agg #[.bool false, .slice none 0 0, .slice none 0 0]) 3 Try.underlying24 hi hz0 hz1 _ _ _ _ n rfl rfl (by omega) (by omega) ?b2 ?b3 (Nat.le_refl _) ?_)
 case b2 => rw [hz2]; omega
 case b3 => unfold maxLen; omega
 intro sn0' hown0 hgrow0
 go_wp2
 go_loopw [4] (fun i wr => ∃ (k : Nat) (ys : List (Value × Value)) (bs : List (Nat × Nat)), k ≤ n ∧ i = .int .i64 k ∧ ys.length = k ∧ Hid (wr.ownsRow w.heap.size 67 3 (.slice (some ⟨w.heap.size, 0, none⟩) n n) n (cellsD (ds.take k ++ List.replicate (n - k) nd0) (ys ++ List.replicate (n - k) nilP))) ∧ Hid (BandsD wr w.heap.size wr.heap.size ys (ds.take k) bs) ∧ Hid (∀ i, i < k → w.heap.size < (bs.getD i (0, 0)).1) ∧ Hid (Below w.heap.size w wr))
  (fun i _ => n - (intOf i).toNat)
 case atStart =>
  refine ⟨0, [], [], Nat.zero_le _, rfl, rfl, hid ?_, hid (by rw [List.take_zero]; exact BandsD.nil _ _ _), hid (fun i hi => by omega), hid ((Below.refl _ _).grown hgrow0 (Nat.le_refl _) (fun k h => by cases h))⟩
  rw [made3n, ← nilS, ← zeroD] at hown0
  simpa using hown0
 case round =>
  obtain ⟨k, ys, bs, hk, rfl, hx, hown, hB, HO, hnx⟩ := hrel
  by_cases hlt : k < n
  · have hlt' : (k : Int) < (n : Int) := by omega
    obtain ⟨b, off, a, c, a', c', rfl, c0', c1', c2', hr0, _, hi0, _⟩ := h.at (k := k) (by omega)
    have hbl := World.block_lt_of_cell? w _ c0'
    have c0 := (hnx.out.cell (p := ⟨b, off + k * 3, none⟩) (by exact hbl)).trans c0'
    have c1 := (hnx.out.cell (p := ⟨b, off + k * 3 + 1, none⟩) (by exact hbl)).trans c1'
    have c2 := (hnx.out.cell (p := ⟨b, off + k * 3 + 2, none⟩) (by exact hbl)).trans c2'
    have hr := hid (hr0.below hnx.out (Nat.le_refl _))
    have hri := hid (hi0.below hnx.out (Nat.le_refl _))
    have hlen := sumD_at szD ds k (by omega)
    have HT := hid (take_snocD ds k (by omega))
    generalize ds.getD k nd0 = d at *
    obtain ⟨lf, es, ks⟩ := d
    obtain ⟨m, hm⟩ : ∃ m, es.length = m := ⟨_, rfl⟩
    obtain ⟨q, hq⟩ : ∃ q, ks.length = q := ⟨_, rfl⟩
    simp only [szD] at c0 c1 c2 hlen hr hri
    rw [hm] at c1 hlen
    rw [hq] at c2 hlen hri
    have HM := hid hm
    have HQ := hid hq
    clear c0' c1' c2' hr0 hi0 hm hq hown0 hgrow0
    go_wp2_with fail
    clear c0 c1 c2
    refine (toNode lf c c' hr.out hri.out HM.out HQ.out (by omega) (by omega) (by omega)).mono ?_
    rintro e w1 ⟨g1, g2, rfl, o1, b1⟩
    have hown1 := owns_below b1 (by have := hnx.out.size; omega) hown.out
    have hxl : (ys ++ List.replicate (n - k) nilP).length = (ds.take k ++ List.replicate (n - k) nd0).length := by simp; omega
    have hel : (ds.take k ++ List.replicate (n - k) nd0).length = n := by simp; omega
    have hz0 : (cellsD (ds.take k ++ List.replicate (n - k) nd0) (ys ++ List.replicate (n - k) nilP)).length = n * 3 := by
     rw [cellsD_len _ _ hxl, hel]
    have hcc : ∀ q, q < 3 → ∃ v, w1.cell? ⟨w.heap.size, k * 3 + q, none⟩ = some v := fun q hq => by
     rw [hown1.cellAt (k * 3 + q) (by omega)]
     exact ⟨_, List.getElem?_eq_getElem (by omega)⟩
    obtain ⟨v0, d0⟩ := hcc 0 (by omega)
    obtain ⟨v1, d1⟩ := hcc 1 (by omega)
    obtain ⟨v2, d2⟩ := hcc 2 (by omega)
    simp only [Nat.add_zero] at d0
    have fz : ∀ q, w1.frozen? ⟨w.heap.size, q, none⟩ = false := fun q => hown1.frozenAt q
    have f0 := fz (k * 3)
    have f1 := fz (k * 3 + 1)
    have f2 := fz (k * 3 + 2)
    have S0 := hown1.stored (k * 3) (.bool lf)
    have S1 := S0.1.stored (k * 3 + 1) (.slice (some ⟨g1, 0, none⟩) m m)
    have S2 := S1.1.stored (k * 3 + 2) (.slice (some ⟨g2, 0, none⟩) q q)
    have hB1 : BandsD w1 w.heap.size w1.heap.size (ys ++ [(.slice (some ⟨g1, 0, none⟩) m m, .slice (some ⟨g2, 0, none⟩) q q)]) (ds.take k ++ [⟨lf, es, ks⟩]) (bs ++ [(wr.heap.size, w1.heap.size)]) := (hB.out.agree (Agree.below b1 (Nat.le_refl _))).snoc (by have := hnx.out.size; omega) (Nat.le_refl _) (Nat.le_refl _) b1.size o1
    have B1 := hB1.aside hown1 (by decide) (by decide) (by decide) S0.2
    have B2 := B1.aside S0.1 (by decide) (by decide) (by decide) S1.2
    have B3 := B2.aside S1.1 (by decide) (by decide) (by decide) S2.2
    have V3 := (((hnx.out.trans (b1.mono hnx.out.size)).setCell (p := ⟨w.heap.size, k * 3, none⟩) (Nat.le_refl _) (.bool lf)).setCell (p := ⟨w.heap.size, k * 3 + 1, none⟩) (Nat.le_refl _) (.slice (some ⟨g1, 0, none⟩) m m)).setCell (p := ⟨w.heap.size, k * 3 + 2, none⟩) (Nat.le_refl _) (.slice (some ⟨g2, 0, none⟩) q q)
    have O3 := S2.1
    rw [cellsD_set3 _ _ k ⟨lf, es, ks⟩ (.slice (some ⟨g1, 0, none⟩) m m, .slice (some ⟨g2, 0, none⟩) q q) hxl (by rw [hel]; omega), set_rep9 _ k n nd0 _ (by simp; omega) hlt, set_rep9 ys k n nilP _ hx hlt, ← HT.out] at O3
    rw [← HT.out] at B3
    have HOO := hid O3
    have HBB := hid B3
    have HV := hid V3
    have HO2 := hid (show ∀ i, i < k + 1 → w.heap.size < ((bs ++ [(wr.heap.size, w1.heap.size)]).getD i (0, 0)).1 from fun i hi => by
     have hbl2 : bs.length = k := by rw [hB.out.blen]; simp; omega
     rw [getD_app, hbl2]
     by_cases hc : i < k
     · rw [if_pos hc]; exact HO.out i hc
     · rw [if_neg hc, show i - k = 0 by omega]; exact (hown.out.lt _ rfl).2)
    clear S0 S1 S2 hB1 B1 B2 B3 V3 O3 hown1 o1 b1 hz0 hcc fz hxl hel
    go_wp2_with fail
    go_roundw
    case rel => exact ⟨k + 1, _, _, by omega, by go_num, by simp [hx], HOO, hid (by simpa using HBB.out), HO2, HV⟩
    case measure => simp [intOf]; omega
  · go_wp2
    go_ret
    have hkn : k = n := by omega
    subst hkn
    refine ⟨rfl, ⟨⟨ys, bs, ?_, ?_, fun i hi g hg => .inl ?_⟩, fun g hg => (hown.out.lt g hg).2⟩, hnx.out⟩
    · have := hown.out
      rw [List.take_of_length_le (by omega)] at this
      rw [hl]
      simpa using this
    · have := hB.out
      rw [List.take_of_length_le (by omega)] at this
      exact this
    · have : g = w.heap.size := by simpa [Value.ownBlock] using hg.symm
      rw [this]; exact HO.out i (by omega)
set_option maxHeartbeats 1600000 in
theorem szNodeS {ad : Option Addr} {n : Nat} (cap : Nat) {ds : List Nd} {w : World} (h : ReadsD w ad ds) (hl : ds.length = n) (hn : n ≤ 9223372036854775807) (left : Int) (h0 : 0 ≤ left) (h1 : left ≤ 1048576) :
 Calls Try.prog 67 #[.slice ad n cap, .int .i64 left] w fun e w' => e = .returned (.int .i64 (lft11 left (n + sumD szD ds))) ∧ Below w.heap.size w w' := by
 have a1 : (0 : Int) ≤ (n : Int) := by omega
 have a2 : (n : Int) ≤ 9223372036854775807 := by omega
 by_cases hbig : left < n
 · have q : left - (n : Int) < 0 := by omega
   have HE := hid (show lft11 left (n + sumD szD ds) = -1 by unfold lft11; rw [if_pos (by omega)])
   go_enter Try.func67, Try.ntmps67
   go_wp2
   go_ret
   exact ⟨by rw [HE.out]; rfl, Below.refl _ _⟩
 have q : ¬ left - (n : Int) < 0 := by omega
 have hn2 : n ≤ 1048576 := by omega
 obtain ⟨L, hL⟩ : ∃ L : Int, left - n = L := ⟨_, rfl⟩
 have hL0 : 0 ≤ L := by omega
 have hL1 : L ≤ 1048576 := by omega
 have HG := hid (show ∀ t : Nat, lft11 left (n + t) = lft11 L t by intro t; unfold lft11; by_cases hh : L < t; rw [if_pos (by omega), if_pos hh]; rw [if_neg (by omega), if_neg hh]; omega)
 have HL := hid hL
 go_enter Try.func67, Try.ntmps67
 go_wp2
 clear hL q
 go_loopw [1, 5] (fun l i wr => ∃ (k : Nat) (x : Int), k ≤ n ∧ i = .int .i64 k ∧ l = .int .i64 x ∧ 0 ≤ x ∧ x ≤ 1048576 ∧ Hid (x = L - sumD szD (ds.take k)) ∧ Hid (Below w.heap.size w wr)) (fun _ i _ => n - (intOf i).toNat)
 case atStart => exact ⟨0, L, Nat.zero_le _, rfl, rfl, hL0, hL1, hid (by simp [sumD]), hid (Below.refl _ _)⟩
 case round =>
  obtain ⟨k, x, hk, rfl, rfl, hx0, hx1, HX, hB⟩ := hrel
  by_cases hlt : k < n
  · have hlt' : (k : Int) < (n : Int) := by omega
    have hk0 : (0 : Int) ≤ (k : Int) := by omega
    obtain ⟨b, off, a, c, a', c', rfl, c0', c1', c2', hr0, hmx, _, hmy⟩ := h.at (k := k) (by omega)
    unfold maxLen at hmx hmy
    have hbl := World.block_lt_of_cell? w _ c0'
    have c0 := (hB.out.cell (p := ⟨b, off + k * 3, none⟩) (by exact hbl)).trans c0'
    have c1 := (hB.out.cell (p := ⟨b, off + k * 3 + 1, none⟩) (by exact hbl)).trans c1'
    have c2 := (hB.out.cell (p := ⟨b, off + k * 3 + 2, none⟩) (by exact hbl)).trans c2'
    have hr := hid (hr0.below hB.out (Nat.le_refl _))
    have HT := hid (sumD_step szD ds k (by omega))
    have HU := hid (sumD_take szD ds (k + 1))
    generalize ds.getD k nd0 = d at *
    obtain ⟨lf, es, ks⟩ := d
    simp only [szD] at c0 c1 c2 hmx hmy HT hr
    obtain ⟨m, hm⟩ : ∃ m, es.length = m := ⟨_, rfl⟩
    obtain ⟨q, hq⟩ : ∃ q, ks.length = q := ⟨_, rfl⟩
    rw [hm] at c1 hmx HT
    rw [hq] at c2 hmy HT
    obtain ⟨y, hy⟩ : ∃ y : Int, lft11 x (m + sumE es + q) = y := ⟨_, rfl⟩
    have HY := hid hy
    have HM := hid hm
    have hy2 : (x < (m + sumE es + q : Nat) ∧ y = -1) ∨ (0 ≤ y ∧ y ≤ 1048576 ∧ y = x - (m + sumE es + q : Nat)) := by
     unfold lft11 at hy
     by_cases hh : x < (m + sumE es + q : Nat)
     · rw [if_pos hh] at hy; exact .inl ⟨hh, hy.symm⟩
     · rw [if_neg hh] at hy; exact .inr ⟨by omega, by omega, hy.symm⟩
    have HY2 := hid hy2
    clear hr0 hm hq hy hy2 c0' c1' c2'
    go_wp2_with fail
    clear c0 c1 c2
    refine (szNode lf c a' q c' hr.out HM.out (by omega) (by omega) x hx0 hx1).mono ?_
    rintro e w1 ⟨rfl, b1⟩
    rw [HY.out]
    have HB := hid (hB.out.trans (b1.mono hB.out.size))
    clear b1
    rcases HY2.out with ⟨hbm, rfl⟩ | ⟨hy0, hy1, hye⟩
    · go_wp2_with fail
      go_ret
      refine ⟨?_, HB.out⟩
      rw [HG.out]
      unfold lft11
      rw [if_pos (by have := HT.out; have := HU.out; have := HX.out; omega)]
      rfl
    · have hy2 : ¬ y < 0 := by omega
      have HYE := hid hye
      clear hye HY2
      go_wp2_with fail
      go_roundw
      case rel => exact ⟨k + 1, y, by omega, by go_num, rfl, hy0, hy1, hid (by have := HT.out; have := HX.out; have := HYE.out; omega), HB⟩
      case measure => simp [intOf]; omega
  · have hlt' : ¬ (k : Int) < (n : Int) := by omega
    go_wp2
    go_ret
    refine ⟨?_, hB.out⟩
    rw [HG.out]
    have := HX.out
    rw [List.take_of_length_le (by omega)] at this
    unfold lft11
    rw [if_neg (by omega), this]
    rfl
set_option maxHeartbeats 6400000 in
theorem eqNodeS {ad ad' : Option Addr} {n : Nat} (cap cap' : Nat) {ds : List Nd} {w : World} (h : ReadsD w ad ds) (h' : ReadsD w ad' ds) (hl : ds.length = n) (hn : n ≤ 2097152) (hs : sumD szD ds ≤ 2097152) :
 Calls Try.prog 64 #[.slice ad n cap, .slice ad' n cap'] w fun e w' => e = .returned (.bool true) ∧ Below w.heap.size w w' := by
 go_enter Try.func64, Try.ntmps64
 go_wp2
 go_loopw [5] (fun i wr => ∃ k : Nat, k ≤ n ∧ i = .int .i64 k ∧ Hid (Below w.heap.size w wr)) (fun i _ => n - (intOf i).toNat)
 case atStart => exact ⟨0, Nat.zero_le _, rfl, hid (Below.refl _ _)⟩
 case round =>
  obtain ⟨k, hk, rfl, hS⟩ := hrel
  by_cases hlt : k < n
  · have hlt' : (k : Int) < (n : Int) := by omega
    have hk0 : (0 : Int) ≤ (k : Int) := by omega
    obtain ⟨b, off, a, c, a1, c1, rfl, x0', x1', x2', r1, _, i1, _⟩ := h.at (k := k) (by omega)
    obtain ⟨b', off', a', c', a1', c1', rfl, y0', y1', y2', r2, _, i2, _⟩ := h'.at (k := k) (by omega)
    have hlen := sumD_at szD ds k (by omega)
    have bl := World.block_lt_of_cell? w _ x0'
    have bl' := World.block_lt_of_cell? w _ y0'
    have bD := (Still.drew wr).below wr.heap.size
    have bE := hS.out.trans (bD.mono hS.out.size)
    generalize ds.getD k nd0 = d at *
    obtain ⟨lf, es, ks⟩ := d
    simp only [szD] at x0' x1' x2' y0' y1' y2' r1 r2 i1 i2 hlen
    obtain ⟨m, hm⟩ : ∃ m, es.length = m := ⟨_, rfl⟩
    obtain ⟨q, hq⟩ : ∃ q, ks.length = q := ⟨_, rfl⟩
    rw [hm] at x1' y1' hlen
    rw [hq] at x2' y2' i1 i2 hlen
    have BX := hid (show wr.drew.cell? ⟨b, off + k * 3, none⟩ = some (.bool lf) ∧ wr.drew.cell? ⟨b, off + k * 3 + 1, none⟩ = some (.slice a m c) ∧ wr.drew.cell? ⟨b, off + k * 3 + 2, none⟩ = some (.slice a1 q c1) ∧ wr.drew.cell? ⟨b', off' + k * 3, none⟩ = some (.bool lf) ∧ wr.drew.cell? ⟨b', off' + k * 3 + 1, none⟩ = some (.slice a' m c') ∧ wr.drew.cell? ⟨b', off' + k * 3 + 2, none⟩ = some (.slice a1' q c1') from
     ⟨(bE.cell (p := ⟨b, off + k * 3, none⟩) (by exact bl)).trans x0', (bE.cell (p := ⟨b, off + k * 3 + 1, none⟩) (by exact bl)).trans x1', (bE.cell (p := ⟨b, off + k * 3 + 2, none⟩) (by exact bl)).trans x2', (bE.cell (p := ⟨b', off' + k * 3, none⟩) (by exact bl')).trans y0', (bE.cell (p := ⟨b', off' + k * 3 + 1, none⟩) (by exact bl')).trans y1', (bE.cell (p := ⟨b', off' + k * 3 + 2, none⟩) (by exact bl')).trans y2'⟩)
    have R1 := hid (r1.below bE (Nat.le_refl _))
    have R2 := hid (r2.below bE (Nat.le_refl _))
    have I1 := hid (i1.below bE (Nat.le_refl _))
    have I2 := hid (i2.below bE (Nat.le_refl _))
    have HM := hid hm
    have BL := hid (show b < wr.drew.heap.size ∧ b' < wr.drew.heap.size from ⟨Nat.lt_of_lt_of_le bl bE.size, Nat.lt_of_lt_of_le bl' bE.size⟩)
    have hm2 : m ≤ 2097152 := by omega
    have hq2 : q ≤ 2097152 := by omega
    have hs2 : sumE es ≤ 2097152 := by omega
    clear x0' x1' x2' y0' y1' y2' r1 r2 i1 i2 hlen hm hq bl bl'
    go_wp2
    replace hS := hid bE
    clear bD bE
    refine region_K 99 (fun W => W.cell? ⟨b, off + k * 3, none⟩ = some (.bool lf) ∧ W.cell? ⟨b, off + k * 3 + 1, none⟩ = some (.slice a m c) ∧ W.cell? ⟨b, off + k * 3 + 2, none⟩ = some (.slice a1 q c1) ∧ W.cell? ⟨b', off' + k * 3, none⟩ = some (.bool lf) ∧ W.cell? ⟨b', off' + k * 3 + 1, none⟩ = some (.slice a' m c') ∧ W.cell? ⟨b', off' + k * 3 + 2, none⟩ = some (.slice a1' q c1')) (by kernel_rfl) ?_ (fun hHeld => ?_)
    · exact BX.out
    generalize wr.drew = v0 at *
    refine anyK_take2 (i := 0) (v := ?v0) rfl (by kernel_rfl) (by kernel_rfl) (by kernel_rfl) (by rfl) (fun _ _ _ h => h) (by rfl) hHeld ?hy0 (some 17) (by rfl) ?rest0
    case hy0 => (intro W hSw; obtain ⟨x0, x1, x2, y0, y1, y2⟩ := hSw; go_simp; (try with_reducible rfl))
    try simp only [Act.put, List.setIfInBounds_toArray, List.set_cons_succ, List.set_cons_zero]
    refine anyK_take2 (i := 1) (v := ?v1) rfl (by kernel_rfl) (by kernel_rfl) (by kernel_rfl) (by rfl) (fun _ _ _ h => h) (by rfl) hHeld ?hy1 (some 18) (by rfl) ?rest1
    case hy1 => (intro W hSw; obtain ⟨x0, x1, x2, y0, y1, y2⟩ := hSw; go_simp; (try with_reducible rfl))
    try simp only [Act.put, List.setIfInBounds_toArray, List.set_cons_succ, List.set_cons_zero]
    refine anyK_take2 (i := 2) (v := ?v2) rfl (by kernel_rfl) (by kernel_rfl) (by kernel_rfl) (by rfl) (fun _ _ _ h => h) (by rfl) hHeld ?hy2 (some 19) (by rfl) ?rest2
    case hy2 => (intro W hSw; obtain ⟨x0, x1, x2, y0, y1, y2⟩ := hSw; go_simp; (try with_reducible rfl))
    try simp only [Act.put, List.setIfInBounds_toArray, List.set_cons_succ, List.set_cons_zero]
    refine anyK_take2 (i := 3) (v := ?v3) rfl (by kernel_rfl) (by kernel_rfl) (by kernel_rfl) (by rfl) (fun _ _ _ h => h) (by rfl) hHeld ?hy3 (some 20) (by rfl) ?rest3
    case hy3 => (intro W hSw; obtain ⟨x0, x1, x2, y0, y1, y2⟩ := hSw; go_simp; (try with_reducible rfl))
    try simp only [Act.put, List.setIfInBounds_toArray, List.set_cons_succ, List.set_cons_zero]
    refine anyK_take2 (i := 4) (v := ?v4) rfl (by kernel_rfl) (by kernel_rfl) (by kernel_rfl) (by rfl) (fun _ _ _ h => h) (by rfl) hHeld ?hy4 (some 21) (by rfl) ?rest4
    case hy4 => (intro W hSw; obtain ⟨x0, x1, x2, y0, y1, y2⟩ := hSw; go_simp; (try with_reducible rfl))
    try simp only [Act.put, List.setIfInBounds_toArray, List.set_cons_succ, List.set_cons_zero]
    refine anyK_take2 (i := 5) (v := ?v5) rfl (by kernel_rfl) (by kernel_rfl) (by kernel_rfl) (by rfl) (fun _ _ _ h => h) (by rfl) hHeld ?hy5 (some 22) (by rfl) ?rest5
    case hy5 => (intro W hSw; obtain ⟨x0, x1, x2, y0, y1, y2⟩ := hSw; go_simp; (try with_reducible rfl))
    try simp only [Act.put, List.setIfInBounds_toArray, List.set_cons_succ, List.set_cons_zero]
    refine anyK_take2 (i := 6) (v := ?v6) rfl (by kernel_rfl) (by kernel_rfl) (by kernel_rfl) (by rfl) (fun _ _ _ h => h) (by rfl) hHeld ?hy6 (some 23) (by rfl) ?rest6
    case hy6 => (intro W hSw; obtain ⟨x0, x1, x2, y0, y1, y2⟩ := hSw; go_simp; (try with_reducible rfl))
    try simp only [Act.put, List.setIfInBounds_toArray, List.set_cons_succ, List.set_cons_zero]
    refine anyK_take2 (i := 7) (v := ?v7) rfl (by kernel_rfl) (by kernel_rfl) (by kernel_rfl) (by rfl) (fun _ _ _ h => h) (by rfl) hHeld ?hy7 (some 24) (by rfl) ?rest7
    case hy7 => (intro W hSw; obtain ⟨x0, x1, x2, y0, y1, y2⟩ := hSw; go_simp; (try with_reducible rfl))
    try simp only [Act.put, List.setIfInBounds_toArray, List.set_cons_succ, List.set_cons_zero]
    refine anyK_step (i := 8) (by kernel_rfl) rfl (fun KP hK => ?_)
    go_simp
    refine (eqNode lf c c' c1 c1' R1.out R2.out I1.out I2.out HM.out hm2 hs2 hq2).mono ?_
    rintro e u ⟨rfl, b1⟩
    have HS2 := hid (hS.out.trans (b1.mono hS.out.size))
    obtain ⟨q0, q1, q2, q3, q4, q5⟩ := BX.out
    replace BX := hid (And.intro ((b1.cell (p := ⟨b, off + k * 3, none⟩) (by exact BL.out.1)).trans q0) (And.intro ((b1.cell (p := ⟨b, off + k * 3 + 1, none⟩) (by exact BL.out.1)).trans q1) (And.intro ((b1.cell (p := ⟨b, off + k * 3 + 2, none⟩) (by exact BL.out.1)).trans q2) (And.intro ((b1.cell (p := ⟨b', off' + k * 3, none⟩) (by exact BL.out.2)).trans q3) (And.intro ((b1.cell (p := ⟨b', off' + k * 3 + 1, none⟩) (by exact BL.out.2)).trans q4) ((b1.cell (p := ⟨b', off' + k * 3 + 2, none⟩) (by exact BL.out.2)).trans q5))))))
    clear b1 q0 q1 q2 q3 q4 q5
    go_wp2_with fail
    clear hHeld
    refine hK.out _ _ BX.out (fun hHeld => ?_)
    clear hK KP
    try simp only [Act.put, List.setIfInBounds_toArray, List.set_cons_succ, List.set_cons_zero]
    refine anyK_step (i := 9) (by kernel_rfl) rfl (fun KP hK => ?_)
    go_simp
    clear hHeld
    refine hK.out _ _ BX.out (fun hHeld => ?_)
    clear hK KP
    try simp only [Act.put, List.setIfInBounds_toArray, List.set_cons_succ, List.set_cons_zero]
    refine anyK_done (by kernel_rfl) ?_ _
    clear hHeld
    go_wp2_with fail
    go_roundw
    case rel => exact ⟨k + 1, by omega, by go_num, HS2⟩
    case measure => simp [intOf]; omega
  · have hlt' : ¬ (k : Int) < (n : Int) := by omega
    go_wp2
    go_ret
    exact ⟨rfl, hS.out⟩
theorem size_tr : (Try.prog.info? 26).map (·.size) = some 2 := by kernel_rfl
set_option maxHeartbeats 3200000 in
theorem toTree {ad : Option Addr} {n : Nat} (cap : Nat) (rt : Int) {ds : List Nd} {w : World} (h : ReadsD w ad ds) (hl : ds.length = n) (hn : n ≤ 2097152) (hs : sumD szD ds ≤ 2097152) :
 Calls Try.prog 32 #[.agg #[.slice ad n cap, .int .i64 rt]] w fun e w' => ∃ g, e = .returned (.agg #[.slice (some ⟨g, 0, none⟩) n n, .int .i64 rt]) ∧ OwnD w' w.heap.size w'.heap.size (.slice (some ⟨g, 0, none⟩) n n) ds ∧ Below w.heap.size w w' := by
 obtain ⟨z3, r1, r2, b3⟩ := three w (.cells #[.slice ad n cap, .int .i64 rt] 53) (.cells #[.slice none 0 0, .int .i64 0] 26) (.cells #[.slice none 0 0, .int .i64 0] 26)
 have r0 := three_first w (.cells #[.slice ad n cap, .int .i64 rt] 53) (.cells #[.slice none 0 0, .int .i64 0] 26) (.cells #[.slice none 0 0, .int .i64 0] 26)
 have H0 := hid r0
 have H1 := hid r1
 have H2 := hid r2
 have HB := hid b3
 have HZ := hid z3
 have HE := hid (h.below b3 (Nat.le_refl _))
 clear r0 r1 r2 b3 z3 h
 go_enter Try.func32, Try.ntmps32
 go_wp2_with fail
 generalize ((w.alloc (.cells #[.slice ad n cap, .int .i64 rt] 53)).alloc (.cells #[.slice none 0 0, .int .i64 0] 26)).alloc (.cells #[.slice none 0 0, .int .i64 0] 26) = X at *
 refine (toNodeS cap HE.out hl hn hs).mono ?_
 rintro e w1 ⟨rfl, oD, b⟩
 have z := HZ.out
 have bs := b.size
 have t0 := (b.block w.heap.size (by omega)).trans H0.out
 have t1 := (b.block (w.heap.size + 1) (by omega)).trans H1.out
 have t2 := (b.block (w.heap.size + 1 + 1) (by omega)).trans H2.out
 have d0 : w1.cell? ⟨(w.heap.size + 1 + 1), 0, none⟩ = some (.slice none 0 0) := by rw [cell_of_row _ _ _ _ _ _ t2]; rfl
 have d1 : w1.cell? ⟨(w.heap.size + 1 + 1), 1, none⟩ = some (.int .i64 0) := by rw [cell_of_row _ _ _ _ _ _ t2]; rfl
 have f0 : w1.frozen? ⟨(w.heap.size + 1 + 1), 0, none⟩ = false := frozen_of_row _ _ _ _ _ t2
 have f1 : w1.frozen? ⟨(w.heap.size + 1 + 1), 1, none⟩ = false := frozen_of_row _ _ _ _ _ t2
 have c1 : w1.cell? ⟨w.heap.size, 1, none⟩ = some (.int .i64 rt) := by rw [cell_of_row _ _ _ _ _ _ t0]; rfl
 have v2 := heap_setCell_same _ (w.heap.size + 1 + 1) 1 _ 26 (.int .i64 rt) (heap_setCell_same w1 (w.heap.size + 1 + 1) 0 _ 26 (.slice (some ⟨X.heap.size, 0, none⟩) n n) t2)
 have v1 := (heap_setCell_other (w1.setCell ⟨(w.heap.size + 1 + 1), 0, none⟩ (.slice (some ⟨X.heap.size, 0, none⟩) n n)) ⟨(w.heap.size + 1 + 1), 1, none⟩ (w.heap.size + 1) (.int .i64 rt) (by simp)).trans ((heap_setCell_other w1 ⟨(w.heap.size + 1 + 1), 0, none⟩ (w.heap.size + 1) (.slice (some ⟨X.heap.size, 0, none⟩) n n) (by simp)).trans t1)
 have bU := ((HB.out.trans (b.mono (by omega))).setCell (p := ⟨(w.heap.size + 1 + 1), 0, none⟩) (by simp; omega) (.slice (some ⟨X.heap.size, 0, none⟩) n n)).setCell (p := ⟨(w.heap.size + 1 + 1), 1, none⟩) (by simp; omega) (.int .i64 rt)
 have gA := grown_set11 w1 (w.heap.size + 1 + 1) 0 (.slice (some ⟨X.heap.size, 0, none⟩) n n)
 have gB := grown_set11 (w1.setCell ⟨(w.heap.size + 1 + 1), 0, none⟩ (.slice (some ⟨X.heap.size, 0, none⟩) n n)) (w.heap.size + 1 + 1) 1 (.int .i64 rt)
 have gC := row_grown11 ((w1.setCell ⟨(w.heap.size + 1 + 1), 0, none⟩ (.slice (some ⟨X.heap.size, 0, none⟩) n n)).setCell ⟨(w.heap.size + 1 + 1), 1, none⟩ (.int .i64 rt)) (w.heap.size + 1) #[(.slice (some ⟨X.heap.size, 0, none⟩) n n), .int .i64 rt]
 have OD := hid ((oD.agree (w' := ((w1.setCell ⟨(w.heap.size + 1 + 1), 0, none⟩ (.slice (some ⟨X.heap.size, 0, none⟩) n n)).setCell ⟨(w.heap.size + 1 + 1), 1, none⟩ (.int .i64 rt)).setRow (w.heap.size + 1) #[(.slice (some ⟨X.heap.size, 0, none⟩) n n), .int .i64 rt]) (fun k k1 k2 => by
  rw [gC.block k (by rw [set_size, set_size]; omega) (by simp; omega), gB.block k (by rw [set_size]; omega) (by simp; omega), gA.block k (by omega) (by simp; omega)])).mono (lo' := w.heap.size) (by omega) (show w1.heap.size ≤ (((w1.setCell ⟨(w.heap.size + 1 + 1), 0, none⟩ (.slice (some ⟨X.heap.size, 0, none⟩) n n)).setCell ⟨(w.heap.size + 1 + 1), 1, none⟩ (.int .i64 rt)).setRow (w.heap.size + 1) #[(.slice (some ⟨X.heap.size, 0, none⟩) n n), .int .i64 rt]).heap.size by have := gA.size; have := gB.size; have := gC.size; omega))
 have B4 := hid (below_setRow bU (show w.heap.size ≤ (w.heap.size + 1) by omega) #[(.slice (some ⟨X.heap.size, 0, none⟩) n n), .int .i64 rt])
 have V1 := hid v1
 have V2 := hid v2
 clear t0 t1 t2 v1 v2 bU gA gB gC oD b z bs H0 H1 H2 HB HZ
 go_wp2_with (first
  | (refine wpList_load_row rfl 26 (.tmp 3) rfl (w.heap.size + 1 + 1) rfl 26 _ (0, 0) _ V2.out Try.underlying26 rfl size_tr ?_)
  | (refine wpList_store_row rfl 26 (.tmp 2) (.tmp 11) rfl (w.heap.size + 1) #[(.slice (some ⟨X.heap.size, 0, none⟩) n n), .int .i64 rt] rfl rfl 26 _ V1.out ?s7 ?s8 ?s9 ?_))
 case s7 => exact size_tr
 case s8 => rfl
 case s9 => simp [Value.oneCell']
 exact bodyPost_ret (results_cell_row Try.results32 _ _ (w.heap.size + 1) 26 _ (0, 0) _ rfl (setRow_heap _ _ _ _ _ _ V1.out) Try.underlying26 rfl size_tr) rfl ⟨X.heap.size, rfl, OD.out, B4.out⟩
set_option maxHeartbeats 1600000 in
theorem szTree {ad : Option Addr} {n : Nat} (cap : Nat) (rt : Int) {ds : List Nd} {w : World} (h : ReadsD w ad ds) (hl : ds.length = n) (hn : n ≤ 9223372036854775807) (left : Int) (h0 : 0 ≤ left) (h1 : left ≤ 1048576) :
 Calls Try.prog 30 #[.agg #[.slice ad n cap, .int .i64 rt], .int .i64 left] w fun e w' => e = .returned (.int .i64 (lft11 left (n + sumD szD ds))) ∧ Below w.heap.size w w' := by
 have hB := Below.alloc1 w (.cells #[.slice ad n cap, .int .i64 rt] 53)
 have H1 := hid (h.below hB (Nat.le_refl _))
 have HB := hid hB
 obtain ⟨M, hM⟩ : ∃ M : Int, lft11 left (n + sumD szD ds) = M := ⟨_, rfl⟩
 have hM0 : M < 0 → M = -1 := by unfold lft11 at hM; split at hM <;> omega
 have HM := hid hM
 have HM0 := hid hM0
 clear hM hM0 hB h
 go_enter Try.func30, Try.ntmps30
 go_wp2_with fail
 refine (szNodeS cap H1.out hl hn left h0 h1).mono ?_
 rintro e w1 ⟨rfl, b⟩
 rw [HM.out]
 replace HB := hid (HB.out.trans (b.mono HB.out.size))
 clear b
 by_cases hq : M < 0
 · go_wp2_with fail
   go_ret
   exact ⟨by rw [HM.out, HM0.out hq]; rfl, HB.out⟩
 · go_wp2_with fail
   go_ret
   exact ⟨by rw [HM.out]; rfl, HB.out⟩
set_option maxHeartbeats 1600000 in
theorem eqTree {ad bd : Option Addr} {n : Nat} (cap cp : Nat) (rt : Int) {ds : List Nd} {w : World} (h : ReadsD w ad ds) (h' : ReadsD w bd ds) (hl : ds.length = n) (hn : n ≤ 2097152) (hs : sumD szD ds ≤ 2097152) :
 Calls Try.prog 27 #[.agg #[.slice ad n cap, .int .i64 rt], .agg #[.slice bd n cp, .int .i64 rt]] w fun e w' => e = .returned (.bool true) ∧ Below w.heap.size w w' := by
 have hB := two w (.cells #[.slice ad n cap, .int .i64 rt] 26) (.cells #[.slice bd n cp, .int .i64 rt] 26)
 obtain ⟨R1, R2, z⟩ := two_rows11 w (.cells #[.slice ad n cap, .int .i64 rt] 26) (.cells #[.slice bd n cp, .int .i64 rt] 26)
 have H1 := hid (h.below hB (Nat.le_refl _))
 have H2 := hid (h'.below hB (Nat.le_refl _))
 have HB := hid hB
 have HR1 := hid R1
 have HR2 := hid R2
 have HZ := hid z
 have q0 : (rt != rt) = false := by simp
 clear hB R1 R2 z h h'
 go_enter Try.func27, Try.ntmps27
 go_wp2_with fail
 refine (eqNodeS cap cp H1.out H2.out hl hn hs).mono ?_
 rintro e w2 ⟨rfl, b⟩
 have hz := HZ.out
 have c1 : w2.cell? ⟨w.heap.size, 1, none⟩ = some (.int .i64 rt) := by rw [cell_of_row _ _ _ _ _ _ ((b.block w.heap.size (by omega)).trans HR1.out)]; rfl
 have c2 : w2.cell? ⟨w.heap.size + 1, 1, none⟩ = some (.int .i64 rt) := by rw [cell_of_row _ _ _ _ _ _ ((b.block (w.heap.size + 1) (by omega)).trans HR2.out)]; rfl
 replace HB := hid (HB.out.trans (b.mono HB.out.size))
 clear b hz
 go_wp2_with fail
 go_ret
 exact ⟨rfl, HB.out⟩
end Go.Proofs.Ytphmlndkjgldkaa
/- The contracts of the laws' markEntryS and heldEntryS. Conditions: entries of at most 2^21 bytes together. -/


namespace Go.Proofs.Ytphmlndkjgldkaa
open Go.RowKit
set_option maxRecDepth 100000
def flE (z : Int) : Nat := floatOfInt .f64 z
theorem flE_ok {z : Int} (h0 : 0 ≤ z) (h1 : z ≤ 1000000000000) : flE z < 18446744073709551616 ∧ FloatKind.f64.format.order (flE z) (flE z) = some .eq := by
 obtain ⟨n, rfl⟩ := Int.eq_ofNat_of_zero_le h0
 have hn : n < 2 ^ 53 := by omega
 unfold flE
 rw [of_F n hn]
 have hlt := F_lt n 1074 hn (by omega)
 have h64 : F n 1074 < 18446744073709551616 := by omega
 have hN : isN (F n 1074) = false := (isN_not _).2 (by omega)
 exact ⟨h64, order_eq _ _ h64 h64 hN hN rfl⟩
def mkE1 (k : Int) (e : En) : En := ⟨k, k + 1, flE (k + 2), marks (k + 3) e.Z.length, k + 3 + e.Z.length⟩
def nmE (e : En) : Nat := 4 + e.Z.length
def sumM : List En → Nat
 | [] => 0
 | e :: es => nmE e + sumM es
theorem sumM_app : ∀ a b : List En, sumM (a ++ b) = sumM a + sumM b
 | [], b => by simp [sumM]
 | e :: a, b => by simp [sumM, sumM_app a b]; omega
theorem sumM_step (es : List En) (k : Nat) (h : k < es.length) : sumM (es.take (k + 1)) = sumM (es.take k) + nmE (es.getD k en0) := by
 rw [take_snocE es k h, sumM_app]; simp [sumM]
theorem sumM_take (es : List En) (k : Nat) : sumM (es.take k) ≤ sumM es := by
 have : sumM es = sumM (es.take k ++ es.drop k) := by rw [List.take_append_drop]
 rw [this, sumM_app]; omega
theorem sumM_eq : ∀ es : List En, sumM es = es.length * 4 + sumE es
 | [] => rfl
 | e :: es => by simp [sumM, sumE, nmE, sumM_eq es]; omega
def mkEs : Int → List En → List En
 | _, [] => []
 | k, e :: es => mkE1 k e :: mkEs (k + nmE e) es
theorem mkEs_length : ∀ (k : Int) (es : List En), (mkEs k es).length = es.length
 | _, [] => rfl
 | k, e :: es => by simp [mkEs, mkEs_length]
theorem mkEs_at : ∀ (k : Int) (es : List En) (i : Nat), i < es.length → (mkEs k es).getD i en0 = mkE1 (k + sumM (es.take i)) (es.getD i en0)
 | k, [], i, h => by cases h
 | k, e :: es, 0, _ => by simp [mkEs, sumM]
 | k, e :: es, i + 1, h => by
  have ih := mkEs_at (k + nmE e) es i (by simpa using h)
  rw [mkEs, List.getD_cons_succ, ih, List.take_succ_cons, List.getD_cons_succ]
  simp only [sumM]
  rw [show k + (nmE e : Int) + (sumM (es.take i) : Nat) = k + ((nmE e + sumM (es.take i) : Nat) : Int) by omega]
theorem mkEs_app : ∀ (k : Int) (a b : List En), mkEs k (a ++ b) = mkEs k a ++ mkEs (k + sumM a) b
 | k, [], b => by simp [mkEs, sumM]
 | k, e :: a, b => by
  simp only [List.cons_append, mkEs, mkEs_app]
  rw [show k + (nmE e : Int) + (sumM a : Int) = k + ((sumM (e :: a) : Nat) : Int) by simp only [sumM]; omega]
theorem set_mkEs (k : Int) (es : List En) (i : Nat) (h : i < es.length) : (mkEs k (es.take i) ++ es.drop i).set i (mkE1 (k + sumM (es.take i)) (es.getD i en0)) = mkEs k (es.take (i + 1)) ++ es.drop (i + 1) := by
 rw [List.set_append_right _ _ (by rw [mkEs_length, List.length_take]; omega), mkEs_length, List.length_take, show i - min i es.length = 0 by omega, take_snocE es i h, mkEs_app, List.append_assoc]
 congr 1
 have : es.drop i = es.getD i en0 :: es.drop (i + 1) := by
  rw [List.drop_eq_getElem_cons h]; simp [List.getD, h]
 rw [this, List.set_cons_zero]
 rfl
theorem mkdropE_at (k : Int) (es : List En) (i : Nat) (h : i < es.length) : (mkEs k (es.take i) ++ es.drop i).getD i en0 = es.getD i en0 := by
 rw [getD_app, mkEs_length, List.length_take, if_neg (by omega), show i - min i es.length = 0 by omega]
 rw [List.drop_eq_getElem_cons h]; simp [List.getD, h]
theorem cellsE_set4 : ∀ (es : List En) (xs : List Value) (k : Nat) (e : En), xs.length = es.length → k < es.length → ((((cellsE es xs).set (k * 5) (.int .i64 e.K)).set (k * 5 + 1) (.int .i64 e.N)).set (k * 5 + 2) (.float .f64 e.F)).set (k * 5 + 4) (.int .i64 e.id) = cellsE (es.set k e) xs
 | q :: es, y :: xs, 0, e, _, _ => by simp [cellsE, cellsE1]
 | q :: es, y :: xs, k + 1, e, h, hk => by
  have ih := cellsE_set4 es xs k e (by simpa using h) (by simpa using hk)
  rw [show (k + 1) * 5 = k * 5 + 5 by omega]
  simp only [cellsE, cellsE1, List.cons_append, List.nil_append, List.set_cons_succ, ← ih]
set_option maxHeartbeats 6400000 in
theorem markEntryS {lo hi : Nat} {a : Option Addr} {n : Nat} (c : Nat) {es : List En} {w : World} (k : Int) (h : OwnE w lo hi (.slice a n c) es) (hl : es.length = n) (hn : n ≤ 2097152) (hs : sumE es ≤ 2097152) (hk0 : 0 ≤ k) (hk1 : k ≤ 400000000) :
 Calls Try.prog 35 #[.slice a n c, .int .i64 k] w fun e w' => e = .returned (.int .i64 (k + sumM es)) ∧ OwnE w' lo hi (.slice a n c) (mkEs k es) ∧ Within lo hi w w' := by
 obtain ⟨xs, ow, hB⟩ := h.own
 have HT := hid h.top
 have hxl : xs.length = n := by rw [hB.len, textsE_len, hl]
 have hsb : sumM es ≤ 10485760 := by have := sumM_eq es; omega
 rw [hl] at ow
 have HO := hid ow
 have HBB := hid hB
 clear h ow hB
 go_enter Try.func35, Try.ntmps35
 go_wp2
 go_loopw [1, 5] (fun x i wr => ∃ j : Nat, j ≤ n ∧ i = .int .i64 j ∧ x = .int .i64 (k + sumM (es.take j)) ∧ Hid (wr.ownsRow lo 35 5 (.slice a n c) n (cellsE (mkEs k (es.take j) ++ es.drop j) xs)) ∧ Hid (Bands wr lo hi xs (textsE (mkEs k (es.take j) ++ es.drop j))) ∧ Hid (Within lo hi w wr)) (fun _ i _ => n - (intOf i).toNat)
 case atStart => exact ⟨0, Nat.zero_le _, rfl, by simp [sumM], hid (by simpa [mkEs] using HO.out), hid (by simpa [mkEs] using HBB.out), hid (Within.refl _ _ _)⟩
 case round =>
  clear HO HBB
  obtain ⟨j, hj, rfl, rfl, HO, HB, HW⟩ := hrel
  by_cases hlt : j < n
  · have hlt' : (j : Int) < (n : Int) := by omega
    have hj0 : (0 : Int) ≤ (j : Int) := by omega
    have hpl : (mkEs k (es.take j) ++ es.drop j).length = n := by rw [List.length_append, mkEs_length, List.length_take, List.length_drop]; omega
    have HSet := hid (set_mkEs k es j (by omega))
    have hat := mkdropE_at k es j (by omega)
    have HStep := hid (sumM_step es j (by omega))
    have hz1 := sumM_take es (j + 1)
    have hzE := sumE_at es j (by omega)
    obtain ⟨X, hX⟩ : ∃ X : Int, k + sumM (es.take j) = X := ⟨_, rfl⟩
    have hX0 : 0 ≤ X ∧ X ≤ 420000000 := by have := sumM_take es j; omega
    rw [hX] at HSet ⊢
    have HX := hid hX
    generalize mkEs k (es.take j) ++ es.drop j = qs at *
    have hrow : ∃ g, a = some ⟨g, 0, none⟩ := by
     rcases HO.out.2 with ⟨_, h0⟩ | ⟨g, cap, cur, e, _⟩
     · omega
     · cases e; exact ⟨g, rfl⟩
    obtain ⟨g, rfl⟩ := hrow
    have hL5 : (cellsE qs xs).length = n * 5 := by rw [cellsE_len _ _ (by omega), hpl]
    have hca := fun q (hq : q < 5) => (HO.out.cellAt (j * 5 + q) (by omega)).trans (cellsE_at qs xs j q (by omega) (by omega) hq)
    rw [hat] at hca
    have hr1 := HB.out.own j
    rw [textsE_at, hat] at hr1
    obtain ⟨a1, c1, e1⟩ := own_sl hr1
    rw [e1] at hca
    have hgin : lo ≤ g ∧ g < hi := ⟨(HO.out.lt g rfl).1, HT.out g rfl⟩
    have fz : ∀ q, wr.frozen? ⟨g, q, none⟩ = false := fun q => HO.out.frozenAt q
    generalize es.getD j en0 = e at *
    obtain ⟨K, N, F, Z, id⟩ := e
    simp only [nmE] at HStep hr1 hca e1 HSet
    obtain ⟨zl, hzl⟩ : ∃ zl, Z.length = zl := ⟨_, rfl⟩
    simp only [mkE1, hzl] at HSet
    simp only at hzE
    rw [hzl] at HStep e1 hr1 hzE
    have hzy : zl ≤ 2097152 := by omega
    clear hzE
    have x0 : wr.cell? ⟨g, j * 5, none⟩ = some (.int .i64 K) := hca 0 (by omega)
    have x1 : wr.cell? ⟨g, j * 5 + 1, none⟩ = some (.int .i64 N) := hca 1 (by omega)
    have x2 : wr.cell? ⟨g, j * 5 + 2, none⟩ = some (.float .f64 F) := hca 2 (by omega)
    have x3 : wr.cell? ⟨g, j * 5 + 3, none⟩ = some (.slice a1 zl c1) := by have := hca 3 (by omega); rw [hzl] at this; exact this
    have y0 := fz (j * 5)
    have y1 := fz (j * 5 + 1)
    have y2 := fz (j * 5 + 2)
    have hst := fun w a z m => run_store Try.prog w a (.float .f64 (floatOfInt .f64 z)) m rfl
    have S0 := HO.out.stored (j * 5) (.int .i64 X)
    have S1 := S0.1.stored (j * 5 + 1) (.int .i64 (X + 1))
    have S2 := S1.1.stored (j * 5 + 2) (.float .f64 (floatOfInt .f64 (X + 1 + 1)))
    have B1 := HB.out.beside S0.2 (fun i => owns_ne (HB.out.own i) HO.out (by decide))
    have B2 := B1.beside S1.2 (fun i => owns_ne (B1.own i) S0.1 (by decide))
    have B3 := B2.beside S2.2 (fun i => owns_ne (B2.own i) S1.1 (by decide))
    have V3 := ((HW.out.trans (Within.setCell _ (p := ⟨g, j * 5, none⟩) hgin (.int .i64 X))).trans (Within.setCell _ (p := ⟨g, j * 5 + 1, none⟩) hgin (.int .i64 (X + 1)))).trans (Within.setCell _ (p := ⟨g, j * 5 + 2, none⟩) hgin (.float .f64 (floatOfInt .f64 (X + 1 + 1))))
    have r3 := B3.own j
    rw [textsE_at, hat, e1] at r3
    simp only at r3
    rw [hzl] at r3
    have i3 := B3.inr j
    rw [e1] at i3
    have K3 := hid S2.1
    have BB3 := hid B3
    have R3 := hid r3
    have I3 := hid i3
    have VV3 := hid V3
    have HE1 := hid e1
    have HL5 := hid hL5
    have HCA4 := hid (hca 4 (by omega))
    have HPL := hid hpl
    have HAT := hid hat
    have HGI := hid hgin
    clear S0 S1 S2 B1 B2 B3 V3 r3 i3 hca fz hr1 e1 hL5 HO HB HW hzl hpl hat hX
    go_wp2_with fail
    clear x0 x1 x2 x3 y0 y1 y2
    generalize ((wr.setCell ⟨g, j * 5, none⟩ (.int .i64 X)).setCell ⟨g, j * 5 + 1, none⟩ (.int .i64 (X + 1))).setCell ⟨g, j * 5 + 2, none⟩ (.float .f64 (floatOfInt .f64 (X + 1 + 1))) = W3 at *
    refine (markByteS_any (X + 1 + 1 + 1) (by omega) (by omega) (by omega) R3.out).mono ?_
    rintro e W8 ⟨rfl, o8, g8⟩
    have k8 := K3.out.kept g8 (owns_ne K3.out R3.out (by decide))
    have b8 := BB3.out.put (i := j) (by rw [textsE_len, HPL.out]; omega) (z := marks (X + 1 + 1 + 1) zl) (by rw [HE1.out]; exact g8) (by rw [HE1.out, marks_length]; exact o8) (marks_bd _ _)
    have v8 := VV3.out.trans (Within.grown g8 I3.out)
    obtain ⟨Q, hQ⟩ : ∃ Q : Int, X + 1 + 1 + 1 + (zl : Int) = Q := ⟨_, rfl⟩
    rw [hQ]
    have hQ0 : 0 ≤ Q ∧ Q ≤ 450000000 := by omega
    have x4 : W8.cell? ⟨g, j * 5 + 4, none⟩ = some (.int .i64 id) := by
     have hl5 := HL5.out
     rw [k8.cellAt (j * 5 + 4) (by omega), List.getElem?_set_ne (by omega), List.getElem?_set_ne (by omega), List.getElem?_set_ne (by omega), cellsE_at qs xs j 4 (by have := HPL.out; omega) (by have := HPL.out; omega) (by omega), HAT.out]; rfl
    have y4 := k8.frozenAt (j * 5 + 4)
    have S4 := k8.stored (j * 5 + 4) (.int .i64 Q)
    have B4 := b8.beside S4.2 (fun i => owns_ne (b8.own i) k8 (by decide))
    have V4 := v8.trans (Within.setCell _ (p := ⟨g, j * 5 + 4, none⟩) HGI.out (.int .i64 Q))
    have O4 := S4.1
    have hE : (⟨X, X + 1, flE (X + 2), marks (X + 3) zl, X + 3 + zl⟩ : En) = ⟨X, X + 1, floatOfInt .f64 (X + 1 + 1), marks (X + 1 + 1 + 1) zl, Q⟩ := by
     rw [← hQ, show X + 1 + 1 + 1 = X + 3 by omega, show X + 1 + 1 = X + 2 by omega]; rfl
    rw [cellsE_set4 qs xs j ⟨X, X + 1, floatOfInt .f64 (X + 1 + 1), marks (X + 1 + 1 + 1) zl, Q⟩ (by have := HPL.out; omega) (by have := HPL.out; omega), ← hE, HSet.out] at O4
    have B5 : Bands (W8.setCell ⟨g, j * 5 + 4, none⟩ (.int .i64 Q)) lo hi xs (textsE (mkEs k (es.take (j + 1)) ++ es.drop (j + 1))) := by
     rw [← HSet.out, hE]
     have : textsE (qs.set j ⟨X, X + 1, floatOfInt .f64 (X + 1 + 1), marks (X + 1 + 1 + 1) zl, Q⟩) = (textsE qs).set j (marks (X + 1 + 1 + 1) zl) := by simp [textsE, List.map_set]
     rw [this]; exact B4
    have N1 := hid O4
    have N2 := hid B5
    have N3 := hid V4
    have HQ := hid hQ
    clear k8 b8 v8 o8 g8 S4 B4 B5 V4 O4 hE hQ K3 BB3 R3 I3 VV3
    go_wp2_with fail
    go_roundw
    case rel => exact ⟨j + 1, by omega, by go_num, by rw [show (k + (sumM (es.take (j + 1)) : Int)) = Q + 1 by have := HStep.out; have := HX.out; have := HQ.out; omega], N1, N2, N3⟩
    case measure => simp [intOf]; omega
  · have hlt' : ¬ (j : Int) < (n : Int) := by omega
    have hjn : j = n := by omega
    subst hjn
    go_wp2
    go_ret
    have e0 : mkEs k (es.take j) ++ es.drop j = mkEs k es := by rw [List.take_of_length_le (by omega), List.drop_eq_nil_of_le (by omega), List.append_nil]
    have e1 := HO.out
    have e2 := HB.out
    rw [e0] at e1 e2
    refine ⟨by rw [List.take_of_length_le (by omega)]; rfl, ⟨⟨xs, by rw [mkEs_length, hl]; exact e1, e2⟩, HT.out, fun i => ?_⟩, HW.out⟩
    by_cases hc : i < es.length
    · rw [mkEs_at k es i hc]
      have h1 := sumM_take es i
      exact (flE_ok (z := k + sumM (es.take i) + 2) (by omega) (by omega)).1
    · rw [List.getD_eq_getElem?_getD, List.getElem?_eq_none (by rw [mkEs_length]; omega)]; simp [en0]
set_option maxHeartbeats 3200000 in
theorem heldEntryS {ad : Option Addr} {n : Nat} (cap : Nat) {es : List En} {w : World} (k : Int) (h : ReadsE w ad (mkEs k es)) (hl : es.length = n) (hn : n ≤ 2097152) (hs : sumE es ≤ 2097152) (hk0 : 0 ≤ k) (hk1 : k ≤ 400000000) :
 Calls Try.prog 36 #[.slice ad n cap, .int .i64 k] w fun e w' => e = .returned (.int .i64 (k + sumM es)) ∧ w' = w := by
 have hsb : sumM es ≤ 10485760 := by have := sumM_eq es; omega
 go_enter Try.func36, Try.ntmps36
 go_wp2
 go_loopw [1, 5] (fun x i wr => ∃ j : Nat, j ≤ n ∧ i = .int .i64 j ∧ x = .int .i64 (k + sumM (es.take j)) ∧ wr = w) (fun _ i _ => n - (intOf i).toNat)
 case atStart => exact ⟨0, Nat.zero_le _, rfl, by simp [sumM], rfl⟩
 case round =>
  obtain ⟨j, hj, rfl, rfl, rfl⟩ := hrel
  by_cases hlt : j < n
  · have hlt' : (j : Int) < (n : Int) := by omega
    have hj0 : (0 : Int) ≤ (j : Int) := by omega
    obtain ⟨b, off, a1, c1, rfl, bx, r1, _, _, _⟩ := h.at (k := j) (by rw [mkEs_length]; omega)
    have HStep := hid (sumM_step es j (by omega))
    have hz1 := sumM_take es (j + 1)
    have hzE := sumE_at es j (by omega)
    rw [mkEs_at k es j (by omega)] at bx r1
    obtain ⟨X, hX⟩ : ∃ X : Int, k + sumM (es.take j) = X := ⟨_, rfl⟩
    have hX0 : 0 ≤ X ∧ X ≤ 420000000 := by have := sumM_take es j; omega
    rw [hX] at bx r1 ⊢
    have HX := hid hX
    generalize es.getD j en0 = e at *
    obtain ⟨K, N, F, Z, id⟩ := e
    simp only [nmE] at HStep
    obtain ⟨zl, hzl⟩ : ∃ zl, Z.length = zl := ⟨_, rfl⟩
    simp only [mkE1, marks_length, hzl] at bx r1 HStep hzE
    have hzy : zl ≤ 2097152 := by omega
    clear hzE
    unfold flE at bx
    have o1 := (flE_ok (z := X + 2) (by omega) (by omega)).2
    unfold flE at o1
    obtain ⟨Q, hQ⟩ : ∃ Q : Int, X + 1 + 1 + 1 + (zl : Int) = Q := ⟨_, rfl⟩
    rw [show X + 3 + (zl : Int) = Q by omega, show X + 2 = X + 1 + 1 by omega] at bx
    rw [show X + 2 = X + 1 + 1 by omega] at o1
    rw [show X + 3 = X + 1 + 1 + 1 by omega] at r1
    have HQ := hid hQ
    have hQ0 : 0 ≤ Q ∧ Q ≤ 430000000 := by omega
    have hQn : ¬ Q < 0 := by omega
    have R1 := hid r1
    obtain ⟨x0, x1, x2, x3, x4⟩ := bx
    clear r1 hX hQ hzl
    go_wp2_with fail
    refine (heldByteS_any c1 (X + 1 + 1 + 1) R1.out (by omega) (by omega) (by omega)).mono ?_
    rintro e w1 ⟨rfl, e1⟩
    subst w1
    rw [HQ.out]
    go_wp2_with fail
    go_roundw
    case rel => exact ⟨j + 1, by omega, by go_num, by rw [show (k + (sumM (es.take (j + 1)) : Int)) = Q + 1 by have := HStep.out; have := HX.out; have := HQ.out; omega], by trivial⟩
    case measure => simp [intOf]; omega
  · have hlt' : ¬ (j : Int) < (n : Int) := by omega
    go_wp2
    go_ret
    exact ⟨by rw [List.take_of_length_le (by omega)]; rfl, rfl⟩
end Go.Proofs.Ytphmlndkjgldkaa
