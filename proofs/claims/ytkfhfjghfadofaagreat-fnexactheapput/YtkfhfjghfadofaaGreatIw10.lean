/- A drawn region cut behind itself; a tuple marked from a great number on; what HeapPut answers is small. Conditions: none. -/
import Derived.Test.YtkfhfjghfadofaaGreatIr10
import Derived.Test.YtkfhfjghfadofaaGreatIo10
import Derived.Test.YtkfhfjghfadofaaGreatIs10
import Derived.Test.YtkfhfjghfadofaaGreatTh
import Derived.Test.YtkfhfjghfadofaaGreatMga
namespace Go.Proofs.YtkfhfjghfadofaaGreat
open Go.RowKit
set_option maxRecDepth 100000
def cutQ (M : Act → World → Prop) (Q : Exit → Act → World → Prop) : Exit → Act → World → Prop
 | .normal, a, w => M a w
 | e, a, w => Q e a w
theorem cutQ_normal {M : Act → World → Prop} {Q : Exit → Act → World → Prop} {a : Act} {w : World} (h : M a w) : cutQ M Q .normal a w := h
theorem region_cut {P : Program} {id : Nat} {ops : Array Oper} {Q : Exit → Act → World → Prop} {a : Act} {w : World} (M : Act → Act → World → Prop)
 (h1 : (Code.region id ops true).wp P (cutQ (M a) Q) a w) (h2 : ∀ a' w', M a a' w' → Q .normal a' w') : (Code.region id ops true).wp P Q a w :=
 Code.wp_mono (fun e a' w' h => by
  cases e with
  | normal => exact h2 _ _ h
  | _ => exact h) h1
theorem putH_small (ps : List Pg) (x y : Int) (okt : Bool) (bz : List Int) (lsn : Int) : (putH ps x y okt bz lsn).length ≤ 17 ∧ ∀ r ∈ putH ps x y okt bz lsn, SmP r.2 := by
 unfold putH
 split
 · rename_i h
   unfold putHOk at h
   rw [Bool.and_eq_true, Bool.and_eq_true, Bool.and_eq_true, Bool.and_eq_true, decide_eq_true_iff] at h
   have h1 := h.1.1.1.1
   have h3 := (okH_of h1).1
   have h4 := h.1.2
   obtain ⟨RL, RS, hR⟩ : ∃ RL RS, putP (ps.getD x.toNat pg0).1 (ps.getD x.toNat pg0).2 y bz lsn = (RL, RS) := ⟨_, _, rfl⟩
   rw [hR]
   exact ⟨by rw [withH_len]; omega, withH_small (okH_small h1) (put_small hR)⟩
 · exact ⟨by simp, fun r hr => by cases hr⟩
set_option maxHeartbeats 3200000 in
theorem markTupleB (A B K N : Int) (f : Nat) {ad : Option Addr} {n cap : Nat} (L M : Int) (h : Nat) {ad' : Option Addr} {m cap' : Nat} (k : Int) {b1 b2 : Nat} {xs ys : List Value} {w : World} (hn : n ≤ 1048576) (hm : m ≤ 1048576) (hk0 : 0 ≤ k) (hk1 : k ≤ 100000000)
 (o1 : w.ownsRow b1 5 1 (.slice ad n cap) n xs) (o2 : w.ownsRow b2 5 1 (.slice ad' m cap') m ys) (ha : Apart (.slice ad n cap) (.slice ad' m cap')) :
 Calls Tryz.prog 37 #[.agg #[.int .i64 A, .int .i64 B, .int .i64 K, .int .i64 N, .float .f64 f, .slice ad n cap, .int .i64 L, .int .i64 M, .float .f64 h, .slice ad' m cap'], .int .i64 k] w fun e w' => e = .returned (.int .i64 (k + n + m)) ∧ w'.ownsRow b1 5 1 (.slice ad n cap) n (bys (marks k n)) ∧ w'.ownsRow b2 5 1 (.slice ad' m cap') m (bys (marks (k + n) m)) ∧ ∃ wm, w.grownBy wm (Value.slice ad n cap).ownBlock ∧ wm.grownBy w' (Value.slice ad' m cap').ownBlock := by
 have hB := BoxT.new w A B K N f ad n cap L M h ad' m cap' 31
 have HL := o1.2
 have z0 := alloc_size w (.cells #[.int .i64 A, .int .i64 B, .int .i64 K, .int .i64 N, .float .f64 f, .slice ad n cap, .int .i64 L, .int .i64 M, .float .f64 h, .slice ad' m cap'] 31)
 have O1 := hid (o1.alloc (.cells #[.int .i64 A, .int .i64 B, .int .i64 K, .int .i64 N, .float .f64 f, .slice ad n cap, .int .i64 L, .int .i64 M, .float .f64 h, .slice ad' m cap'] 31))
 have O2 := hid (o2.alloc (.cells #[.int .i64 A, .int .i64 B, .int .i64 K, .int .i64 N, .float .f64 f, .slice ad n cap, .int .i64 L, .int .i64 M, .float .f64 h, .slice ad' m cap'] 31))
 have G0 : Hid (w.grownBy (w.alloc (.cells #[.int .i64 A, .int .i64 B, .int .i64 K, .int .i64 N, .float .f64 f, .slice ad n cap, .int .i64 L, .int .i64 M, .float .f64 h, .slice ad' m cap'] 31)) none) := hid ⟨rfl, rfl, rfl, by omega, fun i hi _ => heap_alloc_old _ _ hi⟩
 have N1 : Hid (some w.heap.size ≠ (Value.slice ad n cap).ownBlock) := hid fun e => by have := (o1.lt _ e.symm).2; omega
 have HX := hid hB
 have HA := hid ha
 clear hB HL z0 o1 o2 ha
 go_enter Tryz.func37, Tryz.ntmps37
 go_wp2_with fail
 refine (markItem K N f k (by omega) (by omega) (by omega) O1.out).mono ?_
 rintro e w1 ⟨rfl, o, g⟩
 obtain ⟨c0, c1, c2, c3, c4, c5, c6, c7, c8, c9⟩ := HX.out.other g N1.out
 have G1 := hid (grown_none_trans G0.out g)
 have g' := g
 replace O2 := hid (O2.out.kept g (HA.out.symm))
 replace O1 := hid o
 clear g g' o G0
 go_wp2_with fail
 clear c0 c1 c2 c3 c4 c5 c6 c7 c8 c9
 refine (markItem L M h (k + n) (by omega) (by omega) (by omega) O2.out).mono ?_
 rintro e w2 ⟨rfl, o, g⟩
 have O1' := hid (O1.out.kept g HA.out)
 have O2' := hid o
 have G2 := hid g
 clear g o
 go_wp2_with fail
 go_ret
 exact ⟨rfl, O1'.out, O2'.out, w1, G1.out, G2.out⟩
end Go.Proofs.YtkfhfjghfadofaaGreat
