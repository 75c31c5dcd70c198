/- The contract of the laws' toTuple: the same tuple with texts of its own. Conditions: texts of at most 2^21 bytes. -/
import Derived.Test.YtkfhfjghfadofaaGreatTh
import Derived.Test.YtkfhfjghfadofaaGreatPt
import Derived.Test.YtkfhfjghfadofaaGreatMgb
namespace Go.Proofs.YtkfhfjghfadofaaGreat
open Go.RowKit
set_option maxRecDepth 100000
theorem size_it : (Tryz.prog.info? 29).map (·.size) = some 4 := by kernel_rfl
set_option maxHeartbeats 3200000 in
theorem toTuple (A B K N : Int) (f : Nat) {ad : Option Addr} {n : Nat} (cap : Nat) (L M : Int) (h : Nat) {ad' : Option Addr} {m : Nat} (cap' : Nat) {zs ys : List Int} {w : World} (rk : Reads w ad n zs) (rv : Reads w ad' m ys) (hn : n ≤ 2097152) (hm : m ≤ 2097152) :
 Calls Tryz.prog 33 #[.agg #[.int .i64 A, .int .i64 B, .int .i64 K, .int .i64 N, .float .f64 f, .slice ad n cap, .int .i64 L, .int .i64 M, .float .f64 h, .slice ad' m cap']] w fun e w' => ∃ g1 g2, e = .returned (.agg #[.int .i64 A, .int .i64 B, .int .i64 K, .int .i64 N, .float .f64 f, .slice (some ⟨g1, 0, none⟩) n n, .int .i64 L, .int .i64 M, .float .f64 h, .slice (some ⟨g2, 0, none⟩) m m]) ∧ w'.ownsRow w.heap.size 5 1 (.slice (some ⟨g1, 0, none⟩) n n) n (bys zs) ∧ w'.ownsRow w.heap.size 5 1 (.slice (some ⟨g2, 0, none⟩) m m) m (bys ys) ∧ g1 < g2 ∧ Below w.heap.size w w' := by
 obtain ⟨z3, r1, r2, b3⟩ := three w (.cells #[.int .i64 A, .int .i64 B, .int .i64 K, .int .i64 N, .float .f64 f, .slice ad n cap, .int .i64 L, .int .i64 M, .float .f64 h, .slice ad' m cap'] 67) (.cells #[.int .i64 0, .int .i64 0, .int .i64 0, .int .i64 0, .float .f64 0, .slice none 0 0, .int .i64 0, .int .i64 0, .float .f64 0, .slice none 0 0] 31) (.cells #[.int .i64 A, .int .i64 B, .int .i64 0, .int .i64 0, .float .f64 0, .slice none 0 0, .int .i64 0, .int .i64 0, .float .f64 0, .slice none 0 0] 31)
 have r0 := three_first w (.cells #[.int .i64 A, .int .i64 B, .int .i64 K, .int .i64 N, .float .f64 f, .slice ad n cap, .int .i64 L, .int .i64 M, .float .f64 h, .slice ad' m cap'] 67) (.cells #[.int .i64 0, .int .i64 0, .int .i64 0, .int .i64 0, .float .f64 0, .slice none 0 0, .int .i64 0, .int .i64 0, .float .f64 0, .slice none 0 0] 31) (.cells #[.int .i64 A, .int .i64 B, .int .i64 0, .int .i64 0, .float .f64 0, .slice none 0 0, .int .i64 0, .int .i64 0, .float .f64 0, .slice none 0 0] 31)
 have H0 := hid r0
 have H1 := hid r1
 have H2 := hid r2
 have HZ := hid z3
 have HB := hid b3
 have RK := hid (rk.below b3 (Nat.le_refl _))
 have RV := hid (rv.below b3 (Nat.le_refl _))
 clear r0 r1 r2 z3 b3 rk
 go_enter Tryz.func33, Tryz.ntmps33
 go_wp2_with fail
 refine (toItem K N f cap RK.out hn).mono ?_
 rintro e w1 ⟨g1, rfl, o, b⟩
 have z := HZ.out
 have bs := b.size
 have t0 := (b.block w.heap.size (by omega)).trans H0.out
 have t1 := (b.block (w.heap.size + 1) (by omega)).trans H1.out
 have t2 := (b.block (w.heap.size + 1 + 1) (by omega)).trans H2.out
 have og := o.lt g1 rfl
 have bb := HB.out.trans (b.mono HB.out.size)
 have rv1 := RV.out.below b (Nat.le_refl _)
 have T2 := hid t2
 have K0 := hid (show BoxT (w1.setRow (w.heap.size + 1 + 1) #[.int .i64 A, .int .i64 B, .int .i64 K, .int .i64 N, .float .f64 f, .slice (some ⟨g1, 0, none⟩) n n, .int .i64 0, .int .i64 0, .float .f64 0, .slice none 0 0]) w.heap.size A B K N f ad n cap L M h ad' m cap' from BoxT.row ((setRow_other _ _ _ _ (by omega)).trans t0))
 have K1 := hid ((setRow_other w1 (w.heap.size + 1 + 1) (w.heap.size + 1) #[.int .i64 A, .int .i64 B, .int .i64 K, .int .i64 N, .float .f64 f, .slice (some ⟨g1, 0, none⟩) n n, .int .i64 0, .int .i64 0, .float .f64 0, .slice none 0 0] (by omega)).trans t1)
 have K2 := hid (setRow_heap w1 (w.heap.size + 1 + 1) _ #[.int .i64 A, .int .i64 B, .int .i64 K, .int .i64 N, .float .f64 f, .slice (some ⟨g1, 0, none⟩) n n, .int .i64 0, .int .i64 0, .float .f64 0, .slice none 0 0] _ _ t2)
 have KB := hid (below_setRow bb (show w.heap.size ≤ w.heap.size + 1 + 1 by omega) #[.int .i64 A, .int .i64 B, .int .i64 K, .int .i64 N, .float .f64 f, .slice (some ⟨g1, 0, none⟩) n n, .int .i64 0, .int .i64 0, .float .f64 0, .slice none 0 0])
 have KG : Hid (w1.grownBy (w1.setRow (w.heap.size + 1 + 1) #[.int .i64 A, .int .i64 B, .int .i64 K, .int .i64 N, .float .f64 f, .slice (some ⟨g1, 0, none⟩) n n, .int .i64 0, .int .i64 0, .float .f64 0, .slice none 0 0]) (some (w.heap.size + 1 + 1))) := hid ⟨rfl, rfl, rfl, by simp, fun i _ hne => setRow_other _ _ _ _ (fun e => hne (by rw [e]))⟩
 have KZ := hid (show w.heap.size + 3 ≤ (w1.setRow (w.heap.size + 1 + 1) #[.int .i64 A, .int .i64 B, .int .i64 K, .int .i64 N, .float .f64 f, .slice (some ⟨g1, 0, none⟩) n n, .int .i64 0, .int .i64 0, .float .f64 0, .slice none 0 0]).heap.size by simp; omega)
 have O1 := hid (owns_base (base' := w.heap.size) (o.kept KG.out (.inr (by simp [Value.ownBlock]; omega))) (by omega))
 have GL := hid (show g1 < (w1.setRow (w.heap.size + 1 + 1) #[.int .i64 A, .int .i64 B, .int .i64 K, .int .i64 N, .float .f64 f, .slice (some ⟨g1, 0, none⟩) n n, .int .i64 0, .int .i64 0, .float .f64 0, .slice none 0 0]).heap.size by simp; exact og.2)
 have GM := hid (show w.heap.size + 3 ≤ g1 by omega)
 have RV1 := hid (rv.below KB.out (Nat.le_refl _))
 clear z bs t0 t1 t2 og bb rv1 o b H0 H1 H2 HZ HB RK RV KG
 obtain ⟨c0, c1, c2, c3, c4, c5, c6, c7, c8, c9⟩ := K0.out
 go_wp2_with (first
  | (refine wpList_store_part rfl 29 (.tmp 13) (.tmp 12) rfl (w.heap.size + 1 + 1) 2 #[.int .i64 K, .int .i64 N, .float .f64 f, .slice (some ⟨g1, 0, none⟩) n n] rfl rfl 31 _ T2.out ?s1 ?s2 ?s3 #[.int .i64 A, .int .i64 B, .int .i64 K, .int .i64 N, .float .f64 f, .slice (some ⟨g1, 0, none⟩) n n, .int .i64 0, .int .i64 0, .float .f64 0, .slice none 0 0] rfl ?_))
 case s1 => exact size_it
 case s2 => simp
 case s3 => simp [Value.oneCell']
 clear c0 c1 c2 c3 c4 c5 c6 c7 c8 c9 T2 K0
 generalize w1.setRow (w.heap.size + 1 + 1) #[.int .i64 A, .int .i64 B, .int .i64 K, .int .i64 N, .float .f64 f, .slice (some ⟨g1, 0, none⟩) n n, .int .i64 0, .int .i64 0, .float .f64 0, .slice none 0 0] = W1 at *
 refine (toItem L M h cap' RV1.out hm).mono ?_
 rintro e w2 ⟨g2, rfl, o, b⟩
 have kz := KZ.out
 have bs := b.size
 have t1 := (b.block (w.heap.size + 1) (by omega)).trans K1.out
 have t2 := (b.block (w.heap.size + 1 + 1) (by omega)).trans K2.out
 have og := o.lt g2 rfl
 have gl := GL.out
 have gm := GM.out
 have T2 := hid t2
 have bb := KB.out.trans (b.mono (by omega))
 have U1 := hid ((setRow_other w2 (w.heap.size + 1 + 1) (w.heap.size + 1) #[.int .i64 A, .int .i64 B, .int .i64 K, .int .i64 N, .float .f64 f, .slice (some ⟨g1, 0, none⟩) n n, .int .i64 L, .int .i64 M, .float .f64 h, .slice (some ⟨g2, 0, none⟩) m m] (by omega)).trans t1)
 have U2 := hid (setRow_heap w2 (w.heap.size + 1 + 1) _ #[.int .i64 A, .int .i64 B, .int .i64 K, .int .i64 N, .float .f64 f, .slice (some ⟨g1, 0, none⟩) n n, .int .i64 L, .int .i64 M, .float .f64 h, .slice (some ⟨g2, 0, none⟩) m m] _ _ t2)
 have UB := hid (below_setRow bb (show w.heap.size ≤ w.heap.size + 1 + 1 by omega) #[.int .i64 A, .int .i64 B, .int .i64 K, .int .i64 N, .float .f64 f, .slice (some ⟨g1, 0, none⟩) n n, .int .i64 L, .int .i64 M, .float .f64 h, .slice (some ⟨g2, 0, none⟩) m m])
 have KG : Hid (w2.grownBy (w2.setRow (w.heap.size + 1 + 1) #[.int .i64 A, .int .i64 B, .int .i64 K, .int .i64 N, .float .f64 f, .slice (some ⟨g1, 0, none⟩) n n, .int .i64 L, .int .i64 M, .float .f64 h, .slice (some ⟨g2, 0, none⟩) m m]) (some (w.heap.size + 1 + 1))) := hid ⟨rfl, rfl, rfl, by simp, fun i _ hne => setRow_other _ _ _ _ (fun e => hne (by rw [e]))⟩
 have P1 := hid ((owns_below b (Nat.le_refl _) O1.out).kept KG.out (.inr (by simp [Value.ownBlock]; omega)))
 have P2 := hid (o.kept KG.out (.inr (by simp [Value.ownBlock]; omega)))
 have GG := hid (show g1 < g2 by omega)
 have GH := hid (show w.heap.size + 3 ≤ W1.heap.size ∧ w.heap.size + 3 ≤ g1 ∧ w.heap.size + 3 ≤ g2 by omega)
 clear t1 t2 og gl gm bs kz bb o b K1 K2 KB KZ KG O1 GL GM RV1
 go_wp2_with (first
  | (refine wpList_store_part rfl 29 (.tmp 17) (.tmp 16) rfl (w.heap.size + 1 + 1) 6 #[.int .i64 L, .int .i64 M, .float .f64 h, .slice (some ⟨g2, 0, none⟩) m m] rfl rfl 31 _ T2.out ?s4 ?s5 ?s6 #[.int .i64 A, .int .i64 B, .int .i64 K, .int .i64 N, .float .f64 f, .slice (some ⟨g1, 0, none⟩) n n, .int .i64 L, .int .i64 M, .float .f64 h, .slice (some ⟨g2, 0, none⟩) m m] rfl ?_)
  | (refine wpList_load_row rfl 31 (.tmp 3) rfl (w.heap.size + 1 + 1) rfl 31 _ (0, 0) _ U2.out Tryz.underlying31 rfl size_tup ?_)
  | (refine wpList_store_row rfl 31 (.tmp 2) (.tmp 18) rfl (w.heap.size + 1) #[.int .i64 A, .int .i64 B, .int .i64 K, .int .i64 N, .float .f64 f, .slice (some ⟨g1, 0, none⟩) n n, .int .i64 L, .int .i64 M, .float .f64 h, .slice (some ⟨g2, 0, none⟩) m m] rfl rfl 31 _ U1.out ?s7 ?s8 ?s9 ?_))
 case s4 => exact size_it
 case s5 => simp
 case s6 => simp [Value.oneCell']
 case s7 => exact size_tup
 case s8 => rfl
 case s9 => simp [Value.oneCell']
 have gh := GH.out
 have KG : (w2.setRow (w.heap.size + 1 + 1) #[.int .i64 A, .int .i64 B, .int .i64 K, .int .i64 N, .float .f64 f, .slice (some ⟨g1, 0, none⟩) n n, .int .i64 L, .int .i64 M, .float .f64 h, .slice (some ⟨g2, 0, none⟩) m m]).grownBy ((w2.setRow (w.heap.size + 1 + 1) #[.int .i64 A, .int .i64 B, .int .i64 K, .int .i64 N, .float .f64 f, .slice (some ⟨g1, 0, none⟩) n n, .int .i64 L, .int .i64 M, .float .f64 h, .slice (some ⟨g2, 0, none⟩) m m]).setRow (w.heap.size + 1) #[.int .i64 A, .int .i64 B, .int .i64 K, .int .i64 N, .float .f64 f, .slice (some ⟨g1, 0, none⟩) n n, .int .i64 L, .int .i64 M, .float .f64 h, .slice (some ⟨g2, 0, none⟩) m m]) (some (w.heap.size + 1)) := ⟨rfl, rfl, rfl, by simp, fun i _ hne => setRow_other _ _ _ _ (fun e => hne (by rw [e]))⟩
 exact bodyPost_ret (results_cell_row Tryz.results33 _ _ (w.heap.size + 1) 31 _ (0, 0) _ rfl (setRow_heap _ _ _ _ _ _ U1.out) Tryz.underlying31 rfl size_tup) rfl ⟨g1, g2, rfl, P1.out.kept KG (.inr (by simp [Value.ownBlock]; omega)), owns_base (P2.out.kept KG (.inr (by simp [Value.ownBlock]; omega))) (by omega), GG.out, below_setRow UB.out (by omega) _⟩
end Go.Proofs.YtkfhfjghfadofaaGreat
