/- Texts of this proof in one: Kv11 Kk11 Kp11. -/
import Derived.Test.YtlkoghdajpbffaaGreatMgi
import Derived.Test.YtlkoghdajpbffaaGreatMgh
import Derived.Test.YtlkoghdajpbffaaGreatMgg
import Derived.Test.YtlkoghdajpbffaaGreatMge
/- Trees, plain: what the specification's walk leaves unseen, how many entries it meets; its kids one by one. No program, no conditions. -/

namespace Go.Proofs.YtlkoghdajpbffaaGreat
open Go.RowKit
set_option maxRecDepth 100000
structure More (st R : St) : Prop where
 len : R.seen.length = st.seen.length
 uns : unseen R.seen ≤ unseen st.seen
 all : R.all.length + 4 * unseen R.seen ≤ st.all.length + 4 * unseen st.seen
theorem More.refl (st : St) : More st st := ⟨rfl, Nat.le_refl _, Nat.le_refl _⟩
theorem More.trans {a b c : St} (h : More a b) (k : More b c) : More a c := ⟨k.len.trans h.len, Nat.le_trans k.uns h.uns, Nat.le_trans k.all h.all⟩
theorem fold_more {α : Type} (g : St → α → St) (hg : ∀ s t, More s (g s t)) : ∀ (L : List α) (st : St), More st (L.foldl g st)
 | [], st => More.refl st
 | t :: L, st => (hg st t).trans (fold_more g hg L (g st t))
theorem goS_more (ns : List Nd) : ∀ (f : Nat) (st : St) (x deep : Int) (lo hi : Option En), More st (goS ns f st x deep lo hi)
 | 0, st, _, _, _, _ => ⟨rfl, Nat.le_refl _, Nat.le_refl _⟩
 | f + 1, st, x, deep, lo, hi => by
  rw [goS]
  split
  · exact ⟨rfl, Nat.le_refl _, Nat.le_refl _⟩
  · rename_i hc
    have ho : outB ns st.seen x = false := by
     rw [Bool.not_eq_true, Bool.or_eq_false_iff] at hc
     exact hc.2
    have hu := unseen_set st.seen x.toNat (outB_no ho).2.2
    have h1 : More st ⟨st.seen.set x.toNat true, st.deep, st.wrong, st.all⟩ := ⟨by simp, by simp only; omega, by simp only; omega⟩
    simp only
    split
    · exact ⟨h1.len, h1.uns, h1.all⟩
    · rename_i h4
      have h4' : ¬ 4 < (ns.getD x.toNat nd0).es.length := by simpa using h4
      split
      · exact ⟨h1.len, h1.uns, h1.all⟩
      · split
        · exact ⟨h1.len, h1.uns, by simp only [List.length_append]; omega⟩
        · split
          · exact ⟨h1.len, h1.uns, h1.all⟩
          · exact h1.trans (fold_more _ (fun s _ => goS_more ns f s _ _ _ _) _ _)
def kidS (ns : List Nd) (f : Nat) (d : Nd) (deep : Int) (lo hi : Option En) (st : St) (k : Nat) : St :=
 (List.range k).foldl (fun s i => goS ns f s (d.ks.getD i 0) (deep + 1) (lowAt d.es lo i) (highAt d.es hi i)) st
theorem kidS_succ (ns : List Nd) (f : Nat) (d : Nd) (deep : Int) (lo hi : Option En) (st : St) (k : Nat) : kidS ns f d deep lo hi st (k + 1) = goS ns f (kidS ns f d deep lo hi st k) (d.ks.getD k 0) (deep + 1) (lowAt d.es lo k) (highAt d.es hi k) := by
 unfold kidS
 rw [List.range_succ, List.foldl_append]
 rfl
theorem kidS_more (ns : List Nd) (f : Nat) (d : Nd) (deep : Int) (lo hi : Option En) (st : St) (k : Nat) : More st (kidS ns f d deep lo hi st k)   := fold_more _ (fun s _ => goS_more ns f s _ _ _ _) _ _
theorem goS_wrongB (ns : List Nd) (f : Nat) (st : St) (x deep : Int) (lo hi : Option En) (h : (st.wrong || outB ns st.seen x) = true) : goS ns (f + 1) st x deep lo hi = st.bad := by
 rw [goS, if_pos h]
theorem goS_right (ns : List Nd) (f : Nat) (st : St) (x deep : Int) (lo hi : Option En) (d : Nd) (hd : ns.getD x.toNat nd0 = d) (h : (st.wrong || outB ns st.seen x) = false) : goS ns (f + 1) st x deep lo hi =
 if decide (4 < d.es.length) then (St.bad ⟨st.seen.set x.toNat true, st.deep, st.wrong, st.all⟩)
 else if !nodeOk lo hi d.es then (St.bad ⟨st.seen.set x.toNat true, st.deep, st.wrong, st.all⟩)
 else if d.leaf then ⟨st.seen.set x.toNat true, if st.deep = 0 then deep else st.deep, decide ((if st.deep = 0 then deep else st.deep) ≠ deep) || decide (0 < d.ks.length), st.all ++ d.es⟩
 else if decide (d.es.length < 1) || decide (d.ks.length ≠ d.es.length + 1) then (St.bad ⟨st.seen.set x.toNat true, st.deep, st.wrong, st.all⟩)
 else kidS ns f d deep lo hi ⟨st.seen.set x.toNat true, st.deep, st.wrong, st.all⟩ d.ks.length := by
 rw [goS, if_neg (by rw [h]; simp), hd]
 rfl
end Go.Proofs.YtlkoghdajpbffaaGreat
/- The program's order of entries. Conditions: texts of at most 2^21 bytes. -/



namespace Go.Proofs.YtlkoghdajpbffaaGreat
open Go.RowKit
set_option maxRecDepth 100000
def or2 (c d : Int) : Int := if c ≠ 0 then c else d
theorem or2_lt (c a b : Int) : decide (0 ≤ or2 c (cmpZ a b)) = !ltB c a b := by
 unfold or2 cmpZ ltB
 by_cases h0 : c = 0
 · subst h0
   by_cases h1 : a < b
   · simp [h1]
   · by_cases h2 : b < a
     · simp [h1, h2]
     · simp [h1, h2]
 · by_cases h1 : c < 0
   · simp [h0, h1]
   · simp [h0, h1]; omega
set_option maxHeartbeats 1600000 in
theorem impl_or2 (c d : Int) {b off cap : Nat} {w : World} (h0 : w.cell? ⟨b, off, none⟩ = some (.int .i64 c)) (h1 : w.cell? ⟨b, off + 1, none⟩ = some (.int .i64 d)) :
 Calls Tryz.prog 84 #[.slice (some ⟨b, off, none⟩) 2 cap] w fun e w' => e = .returned (.int .i64 (or2 c d)) ∧ w' = w := by
 have HO := hid (show or2 c d = if c ≠ 0 then c else d from rfl)
 go_enter Tryz.func84, Tryz.ntmps84
 go_wp2_with fail
 go_loopw [8] (fun s8 wr => ∃ k : Nat, k ≤ 2 ∧ s8 = .int .i64 k ∧ (1 ≤ k → c = 0) ∧ (2 ≤ k → d = 0) ∧ wr = w) (fun i _ => 2 - (intOf i).toNat)
 case atStart => exact ⟨0, by omega, rfl, fun h => by omega, fun h => by omega, rfl⟩
 case round =>
  obtain ⟨k, hk, rfl, q1, q2, rfl⟩ := hrel
  rcases (show k = 0 ∨ k = 1 ∨ k = 2 by omega) with rfl | rfl | rfl
  · by_cases hc : c = 0
    · subst hc
      go_wp2_with fail
      go_roundw
      case rel => exact ⟨1, by omega, by go_num, fun _ => (by first | trivial | rfl), fun h => by omega, by trivial⟩
      case measure => simp [intOf]
    · have e0 := hid (show or2 c d = c by rw [HO.out, if_pos hc])
      have hc' : (c != 0) = true := by simp [hc]
      go_wp2_with fail
      go_ret
      exact ⟨by rw [e0.out]; rfl, rfl⟩
  · have hc := q1 qN
    subst hc
    have e0 := hid (show or2 0 d = d by rw [HO.out]; simp)
    by_cases hd : d = 0
    · subst hd
      go_wp2_with fail
      go_roundw
      case rel => exact ⟨2, by omega, by go_num, fun _ => (by first | trivial | rfl), fun _ => (by first | trivial | rfl), by trivial⟩
      case measure => simp [intOf]
    · have hd' : (d != 0) = true := by simp [hd]
      go_wp2_with fail
      go_ret
      exact ⟨by rw [e0.out]; rfl, rfl⟩
  · have hc := q1 (by omega)
    have hd := q2 qN
    subst hc hd
    have e0 := hid (show or2 0 0 = 0 by rw [HO.out]; simp)
    go_wp2_with fail
    go_ret
    exact ⟨by rw [e0.out]; rfl, rfl⟩
set_option maxHeartbeats 6400000 in
theorem impl_compare (K N : Int) (f : Nat) {ad : Option Addr} {n : Nat} (cap : Nat) (id : Int) (K' N' : Int) (f' : Nat) {ad' : Option Addr} {n' : Nat} (cap' : Nat) (id' : Int) {zs zs' : List Int} {w : World} (hf : f < 18446744073709551616) (hf' : f' < 18446744073709551616) (h : Reads w ad n zs) (h' : Reads w ad' n' zs') (hn : n ≤ 2097152) (hn' : n' ≤ 2097152) :
 Calls Tryz.prog 56 #[.agg #[.int .i64 K, .int .i64 N, .float .f64 f, .slice ad n cap, .int .i64 id], .agg #[.int .i64 K', .int .i64 N', .float .f64 f', .slice ad' n' cap', .int .i64 id']] w fun e w' => e = .returned (.int .i64 (or2 (cmpI K N f n zs K' N' f' n' zs') (cmpZ id id'))) ∧ Below w.heap.size w w' := by
 have hst := fun w a m => run_store Tryz.prog w a (.float .f64 f) m rfl
 have hst' := fun w a m => run_store Tryz.prog w a (.float .f64 f') m rfl
 have hB := two w (.cells #[.int .i64 K, .int .i64 N, .float .f64 f, .slice ad n cap, .int .i64 id] 48) (.cells #[.int .i64 K', .int .i64 N', .float .f64 f', .slice ad' n' cap', .int .i64 id'] 48)
 obtain ⟨R1, R2, z⟩ := two_rows11 w (.cells #[.int .i64 K, .int .i64 N, .float .f64 f, .slice ad n cap, .int .i64 id] 48) (.cells #[.int .i64 K', .int .i64 N', .float .f64 f', .slice ad' n' cap', .int .i64 id'] 48)
 have HB := hid hB
 have H1 := hid (h.below hB qN)
 have H2 := hid (h'.below hB qN)
 have HR1 := hid R1
 have HR2 := hid R2
 have HZ := hid z
 clear hB R1 R2 z h h'
 go_enter Tryz.func56, Tryz.ntmps56
 go_wp2_with fail
 generalize (w.alloc (.cells #[.int .i64 K, .int .i64 N, .float .f64 f, .slice ad n cap, .int .i64 id] 48)).alloc (.cells #[.int .i64 K', .int .i64 N', .float .f64 f', .slice ad' n' cap', .int .i64 id'] 48) = V at *
 have bD := (Still.drew V).below V.heap.size
 replace H1 := hid (H1.out.below bD qN)
 replace H2 := hid (H2.out.below bD qN)
 have hz := HZ.out
 replace HR1 := hid ((bD.block w.heap.size (by omega)).trans HR1.out)
 replace HR2 := hid ((bD.block (w.heap.size + 1) (by omega)).trans HR2.out)
 replace HB := hid (HB.out.trans (bD.mono HB.out.size))
 have HZ2 := hid (show w.heap.size + 1 < V.drew.heap.size by have := bD.size; omega)
 clear bD hz HZ
 obtain ⟨p0, hp0⟩ : ∃ p0, w.heap.size = p0 := ⟨_, rfl⟩
 obtain ⟨p1, hp1⟩ : ∃ p1, w.heap.size + 1 = p1 := ⟨_, rfl⟩
 rw [hp0] at HR1
 rw [hp1] at HR2 HZ2
 have HP := hid (show p0 < p1 by omega)
 try simp only [hp1]
 try simp only [hp0]
 have HW := hid hp0
 clear hp1 hp0
 have CE := hid (show V.drew.cell? ⟨p0, 0, none⟩ = some (.int .i64 K) ∧ V.drew.cell? ⟨p0, 1, none⟩ = some (.int .i64 N) ∧ V.drew.cell? ⟨p0, 2, none⟩ = some (.float .f64 f) ∧ V.drew.cell? ⟨p0, 3, none⟩ = some (.slice ad n cap) ∧ V.drew.cell? ⟨p0, 4, none⟩ = some (.int .i64 id) ∧ V.drew.cell? ⟨p1, 0, none⟩ = some (.int .i64 K') ∧ V.drew.cell? ⟨p1, 1, none⟩ = some (.int .i64 N') ∧ V.drew.cell? ⟨p1, 2, none⟩ = some (.float .f64 f') ∧ V.drew.cell? ⟨p1, 3, none⟩ = some (.slice ad' n' cap') ∧ V.drew.cell? ⟨p1, 4, none⟩ = some (.int .i64 id') from ⟨qC HR1.out, qC HR1.out, qC HR1.out, qC HR1.out, qC HR1.out, qC HR2.out, qC HR2.out, qC HR2.out, qC HR2.out, qC HR2.out⟩)
 refine region_K 99 (fun W => W.cell? ⟨p0, 0, none⟩ = some (.int .i64 K) ∧ W.cell? ⟨p0, 1, none⟩ = some (.int .i64 N) ∧ W.cell? ⟨p0, 2, none⟩ = some (.float .f64 f) ∧ W.cell? ⟨p0, 3, none⟩ = some (.slice ad n cap) ∧ W.cell? ⟨p0, 4, none⟩ = some (.int .i64 id) ∧ W.cell? ⟨p1, 0, none⟩ = some (.int .i64 K') ∧ W.cell? ⟨p1, 1, none⟩ = some (.int .i64 N') ∧ W.cell? ⟨p1, 2, none⟩ = some (.float .f64 f') ∧ W.cell? ⟨p1, 3, none⟩ = some (.slice ad' n' cap') ∧ W.cell? ⟨p1, 4, none⟩ = some (.int .i64 id')) (by kernel_rfl) ?_ (fun hh => ?_)
 · exact CE.out
 generalize V.drew = v0 at *
 clear CE
 refine qT 0 rfl hh 5 rfl ?_
 refine qT 1 rfl hh 6 rfl ?_
 refine qT 2 rfl hh 7 rfl ?_
 refine qT 3 rfl hh 8 rfl ?_
 refine qT 5 rfl hh 10 rfl ?_
 refine qT 6 rfl hh 11 rfl ?_
 refine qT 7 rfl hh 12 rfl ?_
 refine qT 8 rfl hh 13 rfl ?_
 refine qS 4 rfl fun KP hK => ?_
 go_simp
 refine (impl_ItemCompare K N K' N' f f' cap cap' hf hf' H1.out H2.out hn hn').mono ?_
 rintro e v1 ⟨rfl, b⟩
 replace HR1 := hid ((b.block p0 (by have := HP.out; have := HZ2.out; omega)).trans HR1.out)
 replace HR2 := hid ((b.block p1 HZ2.out).trans HR2.out)
 replace HB := hid (HB.out.trans (b.mono HB.out.size))
 replace HZ2 := hid (Nat.lt_of_lt_of_le HZ2.out b.size)
 obtain ⟨C, hC⟩ : ∃ C, cmpI K N f n zs K' N' f' n' zs' = C := ⟨_, rfl⟩
 rw [hC]
 have HC := hid hC
 clear b hC
 go_wp2_with fail
 clear hh
 refine hK.out _ _ ⟨qC HR1.out, qC HR1.out, qC HR1.out, qC HR1.out, qC HR1.out, qC HR2.out, qC HR2.out, qC HR2.out, qC HR2.out, qC HR2.out⟩ (fun hh => ?_)
 clear hK KP
 try simp only [qP]
 refine qS 9 rfl fun KP hK => ?_
 go_simp
 refine (impl_ordI id id' v1).mono ?_
 rintro e v2 ⟨rfl, e1⟩
 subst v2
 obtain ⟨D, hD⟩ : ∃ D, cmpZ id id' = D := ⟨_, rfl⟩
 rw [hD]
 have HD := hid hD
 clear hD
 go_wp2_with fail
 clear hh
 refine hK.out _ _ ⟨qC HR1.out, qC HR1.out, qC HR1.out, qC HR1.out, qC HR1.out, qC HR2.out, qC HR2.out, qC HR2.out, qC HR2.out, qC HR2.out⟩ (fun hh => ?_)
 clear hK KP
 try simp only [qP]
 refine qS 10 rfl fun KP hK => ?_
 go_simp
 have bA := Below.alloc1 v1 (.cells #[.int .i64 C, .int .i64 D] 3)
 have RN := hid (heap_alloc_new v1 (.cells #[.int .i64 C, .int .i64 D] 3))
 replace HR1 := hid ((bA.block p0 (by have := HP.out; have := HZ2.out; omega)).trans HR1.out)
 replace HR2 := hid ((bA.block p1 HZ2.out).trans HR2.out)
 replace HB := hid (HB.out.trans (bA.mono HB.out.size))
 clear bA
 clear hh
 refine hK.out _ _ ⟨qC HR1.out, qC HR1.out, qC HR1.out, qC HR1.out, qC HR1.out, qC HR2.out, qC HR2.out, qC HR2.out, qC HR2.out, qC HR2.out⟩ (fun hh => ?_)
 clear hK KP
 try simp only [qP]
 refine qS 11 rfl fun KP hK => ?_
 go_simp
 refine (impl_or2 C D (b := v1.heap.size) (off := 0) (cell_of_row _ _ 0 _ _ _ RN.out) (cell_of_row _ _ 1 _ _ _ RN.out)).mono ?_
 rintro e v3 ⟨rfl, e1⟩
 subst v3
 go_wp2_with fail
 clear hh
 refine hK.out _ _ ⟨qC HR1.out, qC HR1.out, qC HR1.out, qC HR1.out, qC HR1.out, qC HR2.out, qC HR2.out, qC HR2.out, qC HR2.out, qC HR2.out⟩ (fun hh => ?_)
 clear hK KP
 try simp only [qP]
 refine qS 12 rfl fun KP hK => ?_
 go_simp
 clear hh
 refine hK.out _ _ ⟨qC HR1.out, qC HR1.out, qC HR1.out, qC HR1.out, qC HR1.out, qC HR2.out, qC HR2.out, qC HR2.out, qC HR2.out, qC HR2.out⟩ (fun hh => ?_)
 clear hK KP
 try simp only [qP]
 refine anyK_done (by kernel_rfl) ?_ _
 clear hh
 go_wp2_with fail
 go_ret
 exact ⟨by rw [HC.out, HD.out]; rfl, HB.out⟩
set_option maxHeartbeats 1600000 in
theorem impl_notBelow (K N : Int) (f : Nat) {ad : Option Addr} {n : Nat} (cap : Nat) (id : Int) (K' N' : Int) (f' : Nat) {ad' : Option Addr} {n' : Nat} (cap' : Nat) (id' : Int) {zs zs' : List Int} {w : World} (hf : f < 18446744073709551616) (hf' : f' < 18446744073709551616) (h : Reads w ad n zs) (h' : Reads w ad' n' zs') (hn : n ≤ 2097152) (hn' : n' ≤ 2097152) :
 Calls Tryz.prog 83 #[.agg #[.int .i64 K, .int .i64 N, .float .f64 f, .slice ad n cap, .int .i64 id], .agg #[.int .i64 K', .int .i64 N', .float .f64 f', .slice ad' n' cap', .int .i64 id']] w fun e w' => e = .returned (.bool (!ltB (cmpI K N f n zs K' N' f' n' zs') id id')) ∧ Below w.heap.size w w' := by
 have hst := fun w a m => run_store Tryz.prog w a (.float .f64 f) m rfl
 have hst' := fun w a m => run_store Tryz.prog w a (.float .f64 f') m rfl
 have hB := two w (.cells #[.int .i64 K, .int .i64 N, .float .f64 f, .slice ad n cap, .int .i64 id] 48) (.cells #[.int .i64 K', .int .i64 N', .float .f64 f', .slice ad' n' cap', .int .i64 id'] 48)
 have HB := hid hB
 have H1 := hid (h.below hB qN)
 have H2 := hid (h'.below hB qN)
 clear hB h h'
 go_enter Tryz.func83, Tryz.ntmps83
 go_wp2_with fail
 refine (impl_compare K N f cap id K' N' f' cap' id' hf hf' H1.out H2.out hn hn').mono ?_
 rintro e w1 ⟨rfl, b⟩
 replace HB := hid (HB.out.trans (b.mono HB.out.size))
 have HL := hid (or2_lt (cmpI K N f n zs K' N' f' n' zs') id id')
 obtain ⟨X, hX⟩ : ∃ X, or2 (cmpI K N f n zs K' N' f' n' zs') (cmpZ id id') = X := ⟨_, rfl⟩
 rw [hX] at HL
 rw [hX]
 clear b hX
 go_wp2_with fail
 go_ret
 exact ⟨by rw [← HL.out]; rfl, HB.out⟩
end Go.Proofs.YtlkoghdajpbffaaGreat
/- Trees of the program in memory: what is kept, a node's form, nodes that are linked, heights. Conditions: heights of at most 2^31. -/


namespace Go.Proofs.YtlkoghdajpbffaaGreat
open Go.RowKit
set_option maxRecDepth 100000
structure Kept (X : Nat → Prop) (w w' : World) : Prop where
 os : w'.os = w.os
 tape : w'.tape = w.tape
 output : w'.output = w.output
 size : w.heap.size ≤ w'.heap.size
 block : ∀ k, k < w.heap.size → ¬ X k → w'.heap[k]? = w.heap[k]?
theorem Kept.refl (X : Nat → Prop) (w : World) : Kept X w w := ⟨rfl, rfl, rfl, Nat.le_refl _, fun _ _ _ => rfl⟩
theorem Kept.trans {X Y : Nat → Prop} {a b c : World} (h : Kept X a b) (k : Kept Y b c) (hY : ∀ i, i < a.heap.size → Y i → X i) : Kept X a c :=
 ⟨k.os.trans h.os, k.tape.trans h.tape, k.output.trans h.output, Nat.le_trans h.size k.size, fun i hi hx => (k.block i (Nat.lt_of_lt_of_le hi h.size) (fun y => hx (hY i hi y))).trans (h.block i hi hx)⟩
theorem Kept.of_below {X : Nat → Prop} {w w' : World} (h : Below w.heap.size w w') : Kept X w w' := ⟨h.os, h.tape, h.output, h.size, fun k hk _ => h.block k hk⟩
theorem Kept.below {X : Nat → Prop} {w w' : World} (h : Kept X w w') {B : Nat} (hB : B ≤ w.heap.size) (hX : ∀ k, k < B → ¬ X k) : Below B w w' := ⟨h.os, h.tape, h.output, h.size, fun k hk => h.block k (Nat.lt_of_lt_of_le hk hB) (hX k hk)⟩
theorem Kept.set {X : Nat → Prop} (w : World) {p : Addr} (hp : X p.block) (u : Value) : Kept X w (w.setCell p u) :=
 ⟨rfl, rfl, rfl, by simp [World.setCell], fun k _ hx => Below.heap_setCell _ _ _ _ (fun e => hx (e ▸ hp))⟩
theorem Kept.mono {X Y : Nat → Prop} {w w' : World} (h : Kept X w w') (hX : ∀ k, k < w.heap.size → X k → Y k) : Kept Y w w' := ⟨h.os, h.tape, h.output, h.size, fun k hk hy => h.block k hk (fun x => hy (hX k hk x))⟩
def formB (lf : Bool) (n m : Nat) : Bool := if lf then decide (n ≤ 4 ∧ m = 0) else decide (1 ≤ n ∧ n ≤ 4 ∧ m = n + 1)
set_option maxHeartbeats 1600000 in
theorem impl_hasForm (lf : Bool) (ad : Option Addr) (n c : Nat) (ad' : Option Addr) (m c' : Nat) (w : World) :
 Calls Tryz.prog 75 #[.agg #[.bool lf, .slice ad n c, .slice ad' m c']] w fun e w' => e = .returned (.bool (formB lf n m)) ∧ Below w.heap.size w w' := by
 have HB := hid (Below.alloc1 w (.cells #[.bool lf, .slice ad n c, .slice ad' m c'] 61))
 have hR := heap_alloc_new w (.cells #[.bool lf, .slice ad n c, .slice ad' m c'] 61)
 have k0 : (w.alloc (.cells #[.bool lf, .slice ad n c, .slice ad' m c'] 61)).cell? ⟨w.heap.size, 0, none⟩ = some (.bool lf) := qC hR
 have k1 : (w.alloc (.cells #[.bool lf, .slice ad n c, .slice ad' m c'] 61)).cell? ⟨w.heap.size, 1, none⟩ = some (.slice ad n c) := qC hR
 have k2 : (w.alloc (.cells #[.bool lf, .slice ad n c, .slice ad' m c'] 61)).cell? ⟨w.heap.size, 2, none⟩ = some (.slice ad' m c') := qC hR
 clear hR
 have HE := hid (show formB lf n m = if lf then decide (n ≤ 4 ∧ m = 0) else decide (1 ≤ n ∧ n ≤ 4 ∧ m = n + 1) from rfl)
 go_enter Tryz.func75, Tryz.ntmps75
 cases lf with
 | true =>
  by_cases hn : n ≤ 4
  · have hn' : (n : Int) ≤ 4 := by omega
    by_cases hm : m = 0
    · subst hm
      go_wp2_with fail
      go_ret
      exact ⟨by rw [HE.out]; simp [hn], HB.out⟩
    · have hm' : ((m : Int) == 0) = false := by simp [hm]
      go_wp2_with fail
      go_ret
      exact ⟨by rw [HE.out]; simp [hm], HB.out⟩
  · have hn' : ¬ (n : Int) ≤ 4 := by omega
    go_wp2_with fail
    go_ret
    exact ⟨by rw [HE.out]; simp [hn], HB.out⟩
 | false =>
  go_wp2_with fail
  refine (impl_in11 n 1 4 _).mono ?_
  rintro e w1 ⟨rfl, e1⟩
  subst w1
  by_cases hn : 1 ≤ n ∧ n ≤ 4
  · have hd : decide ((1 : Int) ≤ n ∧ (n : Int) ≤ 4) = true := decide_eq_true ⟨by omega, by omega⟩
    rw [hd]
    have hx : (n : Int) + 1 ≤ 9223372036854775807 := by omega
    have hx0 : (-9223372036854775808 : Int) ≤ (n : Int) + 1 := by omega
    by_cases hm : m = n + 1
    · have hm' : ((m : Int) == (n : Int) + 1) = true := by simp; omega
      have HM := hid hm
      clear hd hm
      go_wp2_with fail
      go_ret
      refine ⟨?_, HB.out⟩
      rw [HE.out, if_neg (by simp), decide_eq_true ⟨hn.1, hn.2, HM.out⟩]; rfl
    · have hm' : ((m : Int) == (n : Int) + 1) = false := by simp; omega
      have HM := hid hm
      clear hd hm
      go_wp2_with fail
      go_ret
      refine ⟨?_, HB.out⟩
      rw [HE.out, if_neg (by simp), decide_eq_false (fun q => HM.out q.2.2)]; rfl
  · have hd : decide ((1 : Int) ≤ n ∧ (n : Int) ≤ 4) = false := decide_eq_false (fun q => hn ⟨by omega, by omega⟩)
    rw [hd]
    clear hd
    go_wp2_with fail
    go_ret
    refine ⟨?_, HB.out⟩
    rw [HE.out, if_neg (by simp), decide_eq_false (fun q => hn ⟨q.1, q.2.1⟩)]; rfl
def ptrs (gs : List Nat) : List Value := gs.map (fun g => .pointer (some ⟨g, 0, none⟩))
theorem ptrs_len (gs : List Nat) : (ptrs gs).length = gs.length := by simp [ptrs]
theorem ptrs_at (gs : List Nat) (i : Nat) (h : i < gs.length) : (ptrs gs)[i]? = some (.pointer (some ⟨gs.getD i 0, 0, none⟩)) := by simp [ptrs, h, List.getD]
structure KidR (w : World) (lo hi : Nat) (kv : Value) (gs : List Nat) : Prop where
 own : w.ownsRow lo 70 1 kv gs.length (ptrs gs)
 top : ∀ g, kv.ownBlock = some g → g < hi
theorem KidR.agree {w w' : World} {lo hi : Nat} {kv : Value} {gs : List Nat} (h : KidR w lo hi kv gs) (ha : Agree lo hi w w') : KidR w' lo hi kv gs := ⟨owns_agree h.own ha (fun g hg => ⟨(h.own.lt g hg).1, h.top g hg⟩), h.top⟩
theorem KidR.mono {w : World} {lo hi lo' hi' : Nat} {kv : Value} {gs : List Nat} (h : KidR w lo hi kv gs) (hl : lo' ≤ lo) (hh : hi ≤ hi') : KidR w lo' hi' kv gs := ⟨owns_lower h.own hl, fun g hg => Nat.lt_of_lt_of_le (h.top g hg) hh⟩
theorem KidR.at {w : World} {lo hi : Nat} {kv : Value} {gs : List Nat} (h : KidR w lo hi kv gs) (h0 : 0 < gs.length) : ∃ kb kc, kv = .slice (some ⟨kb, 0, none⟩) gs.length kc ∧ lo ≤ kb ∧ kb < hi ∧ ∀ i, i < gs.length → w.cell? ⟨kb, i, none⟩ = some (.pointer (some ⟨gs.getD i 0, 0, none⟩)) := by
 have o := h.own
 rcases o.2 with ⟨e, h1⟩ | ⟨g, cap, cur, e, _⟩
 · omega
 · subst e
   refine ⟨g, cap, rfl, (o.lt g rfl).1, h.top g rfl, fun i hi => ?_⟩
   exact (o.cellAt i (by omega)).trans (ptrs_at gs i hi)
def Lk (w0 w : World) (ns : List Nd) (lo hi : Nat) : Nat → Int → Nat → Prop
 | 0, _, _ => False
 | f + 1, x, g => lo ≤ g ∧ g < hi ∧ formOk (ns.getD x.toNat nd0) = true ∧ ∃ (a : Option Addr) (c : Nat) (kv : Value) (gs : List Nat), w.heap[g]? = some (.cells #[.int .i64 x, .bool (ns.getD x.toNat nd0).leaf, .slice a (ns.getD x.toNat nd0).es.length c, kv] 112) ∧ ReadsE w0 a (ns.getD x.toNat nd0).es ∧ gs.length = (ns.getD x.toNat nd0).ks.length ∧ KidR w lo hi kv gs ∧ ∀ i, i < gs.length → Lk w0 w ns lo hi f ((ns.getD x.toNat nd0).ks.getD i 0) (gs.getD i 0)
theorem Lk.agree {w0 w w' : World} {ns : List Nd} {lo hi : Nat} (ha : Agree lo hi w w') : ∀ (f : Nat) (x : Int) (g : Nat), Lk w0 w ns lo hi f x g → Lk w0 w' ns lo hi f x g
 | 0, _, _, h => h
 | f + 1, _, g, ⟨h1, h2, h3, a, c, kv, gs, h4, h5, h6, h7, h8⟩ => ⟨h1, h2, h3, a, c, kv, gs, (ha g h1 h2).trans h4, h5, h6, h7.agree ha, fun i hi => Lk.agree ha f _ _ (h8 i hi)⟩
theorem form_kids {d : Nd} (h : formOk d = true) (hl : d.leaf = false) : 1 ≤ d.es.length ∧ d.es.length ≤ 4 ∧ d.ks.length = d.es.length + 1 := by
 unfold formOk at h
 rw [hl, if_neg (by simp)] at h
 exact of_decide_eq_true h
theorem form_leaf {d : Nd} (h : formOk d = true) (hl : d.leaf = true) : d.es.length ≤ 4 ∧ d.ks.length = 0 := by
 unfold formOk at h
 rw [hl, if_pos rfl] at h
 exact of_decide_eq_true h
set_option maxHeartbeats 1600000 in
theorem impl_height {w0 w : World} {ns : List Nd} {lo hi : Nat} {f : Nat} {x : Int} {g : Nat} (hf : f ≤ 1000000) (h : Lk w0 w ns lo hi f x g) :
 Calls Tryz.prog 51 #[.pointer (some ⟨g, 0, none⟩)] w fun e w' => e = .returned (.int .i64 (hgt ns f x)) ∧ w' = w := by
 have HL := hid h
 clear h
 go_enter Tryz.func51, Tryz.ntmps51
 go_wp2_with fail
 go_loopw [0, 3] (fun p t wr => ∃ (f' : Nat) (x' : Int) (g' : Nat) (y : Int), p = .pointer (some ⟨g', 0, none⟩) ∧ t = .int .i64 y ∧ 1 ≤ y ∧ y + f' ≤ f + 1 ∧ Hid (Lk w0 w ns lo hi f' x' g') ∧ Hid (y - 1 + hgt ns f' x' = hgt ns f x) ∧ wr = w) (fun _ t _ => f + 1 - (intOf t).toNat)
 case atStart => exact ⟨f, x, g, 1, rfl, rfl, by omega, by omega, HL, hid (by omega), rfl⟩
 case round =>
  obtain ⟨f', x', g', y, rfl, rfl, hy0, hy1, HK, HG, rfl⟩ := hrel
  cases f' with
  | zero => exact absurd HK.out (by simp [Lk])
  | succ f' =>
   obtain ⟨h1, h2, h3, a, c, kv, gs, h4, h5, h6, h7, h8⟩ := HK.out
   have hh : hgt ns (f' + 1) x' = if (ns.getD x'.toNat nd0).leaf = true then 1 else 1 + hgt ns f' ((ns.getD x'.toNat nd0).ks.getD 0 0) := by rw [hgt]
   generalize ns.getD x'.toNat nd0 = d at *
   have k1 : wr.cell? ⟨g', 1, none⟩ = some (.bool d.leaf) := qC h4
   have H8 := hid h8
   have HH := hid hh
   cases hl : d.leaf with
   | true =>
    rw [hl] at k1
    rw [hl, if_pos rfl] at hh
    have HE := hid hh
    clear h1 h2 h3 h4 h5 h6 h7 h8 hh HH H8 HK hl
    go_wp2_with fail
    go_ret
    exact ⟨by have := HG.out; have := HE.out; rw [show hgt ns f x = y by omega]; rfl, rfl⟩
   | false =>
    rw [hl] at k1
    rw [hl, if_neg (by simp)] at hh
    have HE := hid hh
    have hk := form_kids h3 hl
    obtain ⟨kb, kc, rfl, _, _, hc⟩ := h7.at (by omega)
    have k3 : wr.cell? ⟨g', 3, none⟩ = some (.slice (some ⟨kb, 0, none⟩) gs.length kc) := qC h4
    have k5 := hc 0 (by omega)
    have hgl : (0 : Int) < (gs.length : Int) := by omega
    have hgl0 : 0 < gs.length := by omega
    generalize gs.length = q at *
    clear h1 h2 h3 h4 h5 h6 h7 h8 hh HH HK hl hk hc
    go_wp2_with fail
    go_roundw
    case rel => exact ⟨f', _, _, y + 1, rfl, by go_num, by omega, by omega, hid (H8.out 0 hgl0), hid (by have := HG.out; have := HE.out; omega), by trivial⟩
    case measure => simp [intOf]; omega
set_option maxHeartbeats 1600000 in
theorem impl_hasLeavesAt {w0 w : World} {ns : List Nd} {lo hi : Nat} : ∀ (f : Nat) (x : Int) (g : Nat) (y : Int), (-1000000000 : Int) + f ≤ y → y ≤ 1000000000 → Lk w0 w ns lo hi f x g →
 Calls Tryz.prog 50 #[.pointer (some ⟨g, 0, none⟩), .int .i64 y] w fun e w' => e = .returned (.bool (lvs ns f x y)) ∧ w' = w
 | 0, _, _, _, _, _, h => absurd h (by simp [Lk])
 | f + 1, x, g, y, hy0, hy1, h => by
  have IH := hid (fun x g y a b c => impl_hasLeavesAt (w0 := w0) (w := w) (ns := ns) (lo := lo) (hi := hi) f x g y a b c)
  obtain ⟨h1, h2, h3, a, c, kv, gs, h4, h5, h6, h7, h8⟩ := h
  have hv : lvs ns (f + 1) x y = if (ns.getD x.toNat nd0).leaf = true then decide (y = 1) else (ns.getD x.toNat nd0).ks.all (fun k => lvs ns f k (y - 1)) := by rw [lvs]
  generalize ns.getD x.toNat nd0 = d at *
  have k1 : w.cell? ⟨g, 1, none⟩ = some (.bool d.leaf) := qC h4
  have k3 : w.cell? ⟨g, 3, none⟩ = some kv := qC h4
  have H8 := hid h8
  cases hl : d.leaf with
  | true =>
   rw [hl] at k1
   rw [hl, if_pos rfl] at hv
   have HE := hid hv
   clear h1 h2 h3 h4 h5 h6 h7 h8 hv H8 hl IH k3
   by_cases hy : y = 1
   · subst hy
     go_enter Tryz.func50, Tryz.ntmps50
     go_wp2_with fail
     go_ret
     exact ⟨by rw [HE.out]; rfl, rfl⟩
   · have hyb : (y == 1) = false := by simp [hy]
     go_enter Tryz.func50, Tryz.ntmps50
     go_wp2_with fail
     go_ret
     exact ⟨by rw [HE.out]; simp [hy], rfl⟩
  | false =>
   rw [hl] at k1
   rw [hl, if_neg (by simp)] at hv
   have HE := hid hv
   have hk := form_kids h3 hl
   obtain ⟨kb, kc, rfl, _, _, hc⟩ := h7.at (by omega)
   have HC := hid hc
   have HQ := hid h6
   obtain ⟨q, hq⟩ : ∃ q, gs.length = q := ⟨_, rfl⟩
   rw [hq] at k3
   have HQ2 := hid hq
   have hq5 : q ≤ 5 := by omega
   clear h1 h2 h3 h4 h5 h6 h7 h8 hv hl hk hc hq
   go_enter Tryz.func50, Tryz.ntmps50
   go_wp2_with fail
   go_loopw [18] (fun i wr => ∃ k : Nat, k ≤ q ∧ i = .int .i64 k ∧ Hid (∀ j, j < k → lvs ns f (d.ks.getD j 0) (y - 1) = true) ∧ wr = w) (fun i _ => q - (intOf i).toNat)
   case atStart => exact ⟨0, by omega, rfl, hid (fun j hj => by omega), rfl⟩
   case round =>
    obtain ⟨k, hk, rfl, HA, rfl⟩ := hrel
    by_cases hlt : k < q
    · have hlt' : (k : Int) < (q : Int) := by omega
      have hk0 : (0 : Int) ≤ (k : Int) := by omega
      have hlt2 : k < gs.length := by rw [HQ2.out]; exact hlt
      have k5 := HC.out k hlt2
      have HS := hid (H8.out k hlt2)
      clear hlt2
      go_wp2_with fail
      refine (IH.out _ _ (y - 1) (by omega) (by omega) HS.out).mono ?_
      rintro e w1 ⟨rfl, e1⟩
      subst w1
      cases hb : lvs ns f (d.ks.getD k 0) (y - 1) with
      | false =>
       have HF := hid hb
       clear hb
       go_wp2_with fail
       go_ret
       have hkl : k < d.ks.length := by rw [← HQ.out, HQ2.out]; exact hlt
       have hmem : d.ks.getD k 0 ∈ d.ks := by rw [List.getD_eq_getElem?_getD, List.getElem?_eq_getElem hkl]; exact List.getElem_mem hkl
       have e0 : d.ks.all (fun k => lvs ns f k (y - 1)) = false := List.all_eq_false.2 ⟨_, hmem, by rw [HF.out]; simp⟩
       refine ⟨?_, rfl⟩
       rw [HE.out, e0]
       rfl
      | true =>
       have HF := hid hb
       clear hb
       go_wp2_with fail
       go_roundw
       case rel => exact ⟨k + 1, by omega, by go_num, hid (fun j hj => by by_cases e : j = k; exact e ▸ HF.out; exact HA.out j (by omega)), by trivial⟩
       case measure => simp [intOf]; omega
    · obtain rfl : k = q := by omega
      go_wp2_with fail
      go_ret
      have e0 : d.ks.all (fun k => lvs ns f k (y - 1)) = true := by
       rw [List.all_eq_true]
       intro z hz
       obtain ⟨j, hj, rfl⟩ := List.mem_iff_getElem.1 hz
       have := HA.out j (by rw [← HQ2.out, HQ.out]; exact hj)
       rw [List.getD_eq_getElem?_getD, List.getElem?_eq_getElem hj] at this
       exact this
      refine ⟨?_, rfl⟩
      rw [HE.out, e0]
      rfl
end Go.Proofs.YtlkoghdajpbffaaGreat
