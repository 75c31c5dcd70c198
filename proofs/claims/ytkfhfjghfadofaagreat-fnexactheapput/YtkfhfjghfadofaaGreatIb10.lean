/- The contracts of the program's tupleAt, HeapAt and HeapPlace. Conditions: what the types say. -/
import Derived.Test.YtkfhfjghfadofaaGreatHi10
import Derived.Test.YtkfhfjghfadofaaGreatIa10
namespace Go.Proofs.YtkfhfjghfadofaaGreat
open Go.RowKit
set_option maxRecDepth 100000
set_option maxHeartbeats 3200000 in
theorem impl_tupleAt {ad : Option Addr} {n : Nat} (cap : Nat) {ps : List Pg} {w : World} (h : ReadsG w ad ps) (hl : ps.length = n) (hok : okH ps = true) (x y : Int) :
 Calls Tryz.prog 51 #[.agg #[.slice ad n cap], .int .i64 x, .int .i64 y] w fun e w' => AnsTu (atH ps x y) w e w' := by
 have hst0 := fun w a m => run_store Tryz.prog w a (.float .f64 0) m rfl
 obtain ⟨R1, R2, z⟩ := two_rows w (.cells #[.slice ad n cap] 26) (.cells #[.int .i64 0, .int .i64 0, .int .i64 0, .int .i64 0, .float .f64 0, .slice none 0 0, .int .i64 0, .int .i64 0, .float .f64 0, .slice none 0 0] 31)
 have HB := hid (two w (.cells #[.slice ad n cap] 26) (.cells #[.int .i64 0, .int .i64 0, .int .i64 0, .int .i64 0, .float .f64 0, .slice none 0 0, .int .i64 0, .int .i64 0, .float .f64 0, .slice none 0 0] 31))
 have HR := hid (h.below HB.out (Nat.le_refl _))
 have S2 := hid R2
 have HZW := hid (show w.heap.size + 2 ≤ ((w.alloc (.cells #[.slice ad n cap] 26)).alloc (.cells #[.int .i64 0, .int .i64 0, .int .i64 0, .int .i64 0, .float .f64 0, .slice none 0 0, .int .i64 0, .int .i64 0, .float .f64 0, .slice none 0 0] 31)).heap.size by omega)
 have hc0 : ((w.alloc (.cells #[.slice ad n cap] 26)).alloc (.cells #[.int .i64 0, .int .i64 0, .int .i64 0, .int .i64 0, .float .f64 0, .slice none 0 0, .int .i64 0, .int .i64 0, .float .f64 0, .slice none 0 0] 31)).cell? ⟨w.heap.size, 0, none⟩ = some (.slice ad n cap) := by rw [cell_of_row _ _ _ _ _ _ R1]; rfl
 have HO := hid hok
 have hn16 : n ≤ 16 := by have := (okH_of hok).1; omega
 clear h R1 R2 z hok
 go_enter Tryz.func51, Tryz.ntmps51
 go_wp2_with fail
 generalize (w.alloc (.cells #[.slice ad n cap] 26)).alloc (.cells #[.int .i64 0, .int .i64 0, .int .i64 0, .int .i64 0, .float .f64 0, .slice none 0 0, .int .i64 0, .int .i64 0, .float .f64 0, .slice none 0 0] 31) = W at *
 refine (impl_inP _ _ _ _).mono ?_
 rintro e w1 ⟨rfl, e1⟩
 subst w1
 by_cases hx : 0 ≤ x ∧ x ≤ (n : Int) - 1
 · rw [decide_eq_true hx]
   obtain ⟨i, rfl⟩ : ∃ i : Nat, x = i := ⟨x.toNat, by omega⟩
   have hin : i < n := by omega
   have hin' : (i : Int) < (n : Int) := by omega
   have hi0 : (0 : Int) ≤ (i : Int) := by omega
   obtain ⟨b, off, a, c, rfl, hca, hcx, hr0, hmx⟩ := HR.out.at (k := i) (by omega)
   have hpg := okPg_of ((okH_of HO.out).2 i (by omega))
   have h16 := (okP_of hpg.1).n
   have HZ := hid (okP_of hpg.1).z
   have HNo := hid (fun (q : ¬ (0 ≤ y ∧ y ≤ ((ps.getD i pg0).2.length : Int) - 1)) => atH_no (ps := ps) (x := (i : Int)) (y := y) (fun z => q (by have := z.2.2; rw [Int.toNat_natCast] at this; exact this)))
   have HYes := hid (fun k (hk : k < (ps.getD i pg0).2.length) => atH_yes (ps := ps) (i := i) (k := k) HO.out (by omega) hk)
   generalize ps.getD i pg0 = p at hca hcx hr0 hmx h16 HZ HNo HYes
   obtain ⟨A, ss⟩ := p
   obtain ⟨m, hm⟩ : ∃ m, ss.length = m := ⟨_, rfl⟩
   simp only at hca hcx hr0 hmx h16 HZ HNo HYes
   rw [hm] at hcx hmx h16
   rw [hm] at HNo HYes
   have HM := hid hm
   have hr := hid hr0
   clear hx hpg hm hr0
   go_wp2_with fail
   refine (impl_inP _ _ _ _).mono ?_
   rintro e w1 ⟨rfl, e1⟩
   subst w1
   by_cases hy : 0 ≤ y ∧ y ≤ (m : Int) - 1
   · rw [decide_eq_true hy]
     obtain ⟨k, rfl⟩ : ∃ k : Nat, y = k := ⟨y.toNat, by omega⟩
     have hkm : k < m := by omega
     have hkm' : (k : Int) < (m : Int) := by omega
     have hk0 : (0 : Int) ≤ (k : Int) := by omega
     obtain ⟨b3, off3, a3, c3, rfl, hs1, hrs0, hnil, hroom⟩ := hr.out.at (k := k) (by rw [HM.out]; exact hkm)
     have hz92 := HZ.out k
     have HE := hid (HYes.out k hkm)
     have hTbd := readT_bd (zs := ss.getD k []) hrs0.bd (by omega)
     generalize ss.getD k [] = zz at hs1 hrs0 hz92 hroom HE hTbd
     obtain ⟨l, hlz⟩ : ∃ l, zz.length = l := ⟨_, rfl⟩
     rw [hlz] at hs1 hz92 hroom hrs0
     have hrs := hid hrs0
     have BD1 := hid hTbd.1
     have BD2 := hid hTbd.2.2.1
     clear hrs0 hTbd hlz hy
     go_wp2_with fail
     refine (impl_TupleRead c3 hroom hrs.out (by omega)).mono ?_
     rintro e w5 ⟨f1, v1, f2, v2, rfl, hf1, hf2, sf1, sf2, o1, o2, hap, b5⟩
     obtain ⟨a1, c1, rfl⟩ := own_sl o1
     obtain ⟨a2, c2, rfl⟩ := own_sl o2
     have hst1 := fun w a m => run_store Tryz.prog w a (.float .f64 f1) m rfl
     have hst2 := fun w a m => run_store Tryz.prog w a (.float .f64 f2) m rfl
     have T2 := hid ((b5.block (w.heap.size + 1) (by have := HZW.out; omega)).trans S2.out)
     replace HB := hid (HB.out.trans (b5.mono HB.out.size))
     have O1 := hid o1
     have O2 := hid o2
     clear b5 o1 o2 hca hcx hs1 hc0
     go_wp2_with (refine wpList_store_row rfl 31 (.tmp 6) (.tmp 39) rfl (w.heap.size + 1) #[.int .i64 (readT zz).A, .int .i64 (readT zz).B, .int .i64 (readT zz).K, .int .i64 (readT zz).N, .float .f64 f1, .slice a1 (readT zz).Z.length c1, .int .i64 (readT zz).L, .int .i64 (readT zz).M, .float .f64 f2, .slice a2 (readT zz).Y.length c2] rfl rfl 31 _ T2.out ?t1 ?t2 ?t3 ?_)
     case t1 => exact size_tup
     case t2 => rfl
     case t3 => simp [Value.oneCell']
     have hzw := HZW.out
     refine bodyPost_ret (results_cell_tmp Tryz.results51 _ _ (w.heap.size + 1) 31 _ (0, 0) _ rfl (setRow_heap _ _ _ _ _ _ T2.out) Tryz.underlying31 rfl size_tup) rfl ?_
     rw [HE.out]
     have gr := fun v n xs (o : w5.ownsRow W.heap.size 5 1 v n xs) => owns_lower (base' := w.heap.size) (own_off10 o (g := w.heap.size + 1) (by omega) #[.int .i64 (readT zz).A, .int .i64 (readT zz).B, .int .i64 (readT zz).K, .int .i64 (readT zz).N, .float .f64 f1, .slice a1 (readT zz).Z.length c1, .int .i64 (readT zz).L, .int .i64 (readT zz).M, .float .f64 f2, .slice a2 (readT zz).Y.length c2]) (by omega)
     exact ⟨⟨f1, _, f2, _, rfl, hf1, hf2, sf1, sf2, gr _ _ _ O1.out, gr _ _ _ O2.out, hap, below_setRow HB.out (by omega) _⟩⟩
   · rw [decide_eq_false hy]
     have HY := hid (HNo.out hy)
     clear hy
     go_wp2_with (refine wpList_store_row rfl 31 (.tmp 6) (.tmp 28) rfl (w.heap.size + 1) #[.int .i64 0, .int .i64 0, .int .i64 0, .int .i64 0, .float .f64 0, .slice none 0 0, .int .i64 0, .int .i64 0, .float .f64 0, .slice none 0 0] rfl rfl 31 _ S2.out ?u1 ?u2 ?u3 ?_)
     case u1 => exact size_tup
     case u2 => rfl
     case u3 => simp [Value.oneCell']
     refine bodyPost_ret (results_cell_tmp Tryz.results51 _ _ (w.heap.size + 1) 31 _ (0, 0) _ rfl (setRow_heap _ _ _ _ _ _ S2.out) Tryz.underlying31 rfl size_tup) rfl ?_
     rw [HY.out]
     exact AnsTu.zero rfl (below_setRow HB.out (by omega) _)
 · rw [decide_eq_false hx]
   have HX := hid (atH_no (ps := ps) (x := x) (y := y) (fun z => hx (by have := z.2.1; rw [hl] at this; exact this)))
   clear hx
   go_wp2_with (refine wpList_store_row rfl 31 (.tmp 6) (.tmp 28) rfl (w.heap.size + 1) #[.int .i64 0, .int .i64 0, .int .i64 0, .int .i64 0, .float .f64 0, .slice none 0 0, .int .i64 0, .int .i64 0, .float .f64 0, .slice none 0 0] rfl rfl 31 _ S2.out ?v1 ?v2 ?v3 ?_)
   case v1 => exact size_tup
   case v2 => rfl
   case v3 => simp [Value.oneCell']
   refine bodyPost_ret (results_cell_tmp Tryz.results51 _ _ (w.heap.size + 1) 31 _ (0, 0) _ rfl (setRow_heap _ _ _ _ _ _ S2.out) Tryz.underlying31 rfl size_tup) rfl ?_
   rw [HX.out]
   exact AnsTu.zero rfl (below_setRow HB.out (by omega) _)
end Go.Proofs.YtkfhfjghfadofaaGreat
