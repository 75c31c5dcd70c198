/- The contract of the specification's HeapPut. Conditions: what the types say. -/
import Derived.Test.YtkfhfjghfadofaaGreatIq10
import Derived.Test.YtkfhfjghfadofaaGreatIn10
import Derived.Test.YtkfhfjghfadofaaGreatIt10
import Derived.Test.YtkfhfjghfadofaaGreatPg
import Derived.Test.YtkfhfjghfadofaaGreatMgb
namespace Go.Proofs.YtkfhfjghfadofaaGreat
open Go.RowKit
set_option maxRecDepth 100000
set_option maxHeartbeats 409600000 in
theorem spec_HeapPut {ad : Option Addr} {n : Nat} (cap : Nat) {ps : List Pg} (x y lsn : Int) (A B K N : Int) {f : Nat} {ta : Option Addr} {tn : Nat} (tc : Nat) (L M : Int) {h2 : Nat} {tb : Option Addr} {tm : Nat} (td : Nat) {zs ys : List Int} {w : World} (h : ReadsG w ad ps) (hl : ps.length = n) (rk : Reads w ta tn zs) (rv : Reads w tb tm ys) (hnil : ta = none → tc = 0) (hnil' : tb = none → td = 0) (htn : tn ≤ 2097152) (htm : tm ≤ 2097152) (hN : -9223372036854775808 ≤ N ∧ N ≤ 9223372036854775807) (hM : -9223372036854775808 ≤ M ∧ M ≤ 9223372036854775807) (hf : f < 18446744073709551616) (hh : h2 < 18446744073709551616) :
 Calls Tryz.prog 10 #[.agg #[.slice ad n cap], .int .i64 x, .int .i64 y, .agg #[.int .i64 A, .int .i64 B, .int .i64 K, .int .i64 N, .float .f64 f, .slice ta tn tc, .int .i64 L, .int .i64 M, .float .f64 h2, .slice tb tm td], .int .i64 lsn] w fun e w' => AnsH (putH ps x y (okT A B K N f tn L M h2 tm) (bytesT A B K N f tn zs L M h2 tm ys) lsn) (putHOk ps x y (okT A B K N f tn L M h2 tm) (bytesT A B K N f tn zs L M h2 tm ys) lsn) w e w' := by
 have hst1 := fun w a m => run_store Tryz.prog w a (.float .f64 f) m rfl
 have hst2 := fun w a m => run_store Tryz.prog w a (.float .f64 h2) m rfl
 obtain ⟨i0, hi, hz0, hz1, hz2⟩ := info_parts Tryz.infoPg
 have z1 := alloc_size w (.cells #[.slice ad n cap] 26)
 have z2 := alloc_size (w.alloc (.cells #[.slice ad n cap] 26)) (.cells #[.int .i64 A, .int .i64 B, .int .i64 K, .int .i64 N, .float .f64 f, .slice ta tn tc, .int .i64 L, .int .i64 M, .float .f64 h2, .slice tb tm td] 31)
 have z3 := alloc_size ((w.alloc (.cells #[.slice ad n cap] 26)).alloc (.cells #[.int .i64 A, .int .i64 B, .int .i64 K, .int .i64 N, .float .f64 f, .slice ta tn tc, .int .i64 L, .int .i64 M, .float .f64 h2, .slice tb tm td] 31)) (.cells #[.slice none 0 0] 26)
 have b1 := Boxed.new w 26 (.slice ad n cap)
 have b2 := BoxT.new (w.alloc (.cells #[.slice ad n cap] 26)) A B K N f ta tn tc L M h2 tb tm td 31
 have b3 := Boxed.new ((w.alloc (.cells #[.slice ad n cap] 26)).alloc (.cells #[.int .i64 A, .int .i64 B, .int .i64 K, .int .i64 N, .float .f64 f, .slice ta tn tc, .int .i64 L, .int .i64 M, .float .f64 h2, .slice tb tm td] 31)) 26 (.slice none 0 0)
 rw [z1] at b2 z2
 rw [z2] at b3 z3
 have hB : Below w.heap.size w (((w.alloc (.cells #[.slice ad n cap] 26)).alloc (.cells #[.int .i64 A, .int .i64 B, .int .i64 K, .int .i64 N, .float .f64 f, .slice ta tn tc, .int .i64 L, .int .i64 M, .float .f64 h2, .slice tb tm td] 31)).alloc (.cells #[.slice none 0 0] 26)) := (((Below.refl _ w).alloc (Nat.le_refl _) _).alloc (by omega) _).alloc (by omega) _
 have HB := hid hB
 have HR := hid (h.below hB (Nat.le_refl _))
 have S1 := hid ((b1.alloc (.cells #[.int .i64 A, .int .i64 B, .int .i64 K, .int .i64 N, .float .f64 f, .slice ta tn tc, .int .i64 L, .int .i64 M, .float .f64 h2, .slice tb tm td] 31)).alloc (.cells #[.slice none 0 0] 26))
 have S2 := hid (b2.below (Below.alloc1 _ (.cells #[.slice none 0 0] 26)) (Nat.le_refl _))
 have S3 := hid b3
 have RK := hid (rk.below hB (Nat.le_refl _))
 have RV := hid (rv.below hB (Nat.le_refl _))
 have HBY := hid (bytesT_bd (A := A) (B := B) (K := K) (N := N) (f := f) (L := L) (M := M) (h := h2) rk.bd rv.bd rk.len rv.len)
 have HZ := hid (show w.heap.size + 3 ≤ (((w.alloc (.cells #[.slice ad n cap] 26)).alloc (.cells #[.int .i64 A, .int .i64 B, .int .i64 K, .int .i64 N, .float .f64 f, .slice ta tn tc, .int .i64 L, .int .i64 M, .float .f64 h2, .slice tb tm td] 31)).alloc (.cells #[.slice none 0 0] 26)).heap.size by omega)
 have HNI := hid hnil
 have HNJ := hid hnil'
 have c1 := S1.out.cell
 clear h rk rv b1 b2 b3 z1 z2 z3 hB hnil hnil'
 go_enter Tryz.func10, Tryz.ntmps10
 go_wp2_with fail
 generalize ((w.alloc (.cells #[.slice ad n cap] 26)).alloc (.cells #[.int .i64 A, .int .i64 B, .int .i64 K, .int .i64 N, .float .f64 f, .slice ta tn tc, .int .i64 L, .int .i64 M, .float .f64 h2, .slice tb tm td] 31)).alloc (.cells #[.slice none 0 0] 26) = W0 at *
 refine (spec_HeapAt cap HR.out hl x y).mono ?_
 rintro e w5 ⟨⟨f1, v1, f2, v2, rfl, _, _, _, _, o1, o2, _, b5⟩⟩
 obtain ⟨a1, c3, rfl⟩ := own_sl o1
 obtain ⟨a2, c4, rfl⟩ := own_sl o2
 have hst3 := fun w a m => run_store Tryz.prog w a (.float .f64 f1) m rfl
 have hst4 := fun w a m => run_store Tryz.prog w a (.float .f64 f2) m rfl
 obtain ⟨tk, htk⟩ : ∃ tk, (atH ps x y).ok = tk := ⟨_, rfl⟩
 rw [htk]
 have HTK := hid htk
 clear o1 o2 c1 htk
 generalize (atH ps x y).A = q1 at *
 generalize (atH ps x y).B = q2 at *
 generalize (atH ps x y).K = q3 at *
 generalize (atH ps x y).N = q4 at *
 generalize (atH ps x y).L = q5 at *
 generalize (atH ps x y).M = q6 at *
 generalize (atH ps x y).Z.length = q7 at *
 generalize (atH ps x y).Y.length = q8 at *
 have bX := Below.alloc1 w5 (.cells #[.int .i64 q1, .int .i64 q2, .int .i64 q3, .int .i64 q4, .float .f64 f1, .slice a1 q7 c3, .int .i64 q5, .int .i64 q6, .float .f64 f2, .slice a2 q8 c4] 31)
 have b := b5.trans (bX.mono b5.size)
 replace HR := hid (HR.out.below b (Nat.le_refl _))
 replace HB := hid (HB.out.trans (b.mono HB.out.size))
 replace S1 := hid (show Boxed (w5.alloc (.cells #[.int .i64 q1, .int .i64 q2, .int .i64 q3, .int .i64 q4, .float .f64 f1, .slice a1 q7 c3, .int .i64 q5, .int .i64 q6, .float .f64 f2, .slice a2 q8 c4] 31)) w.heap.size 26 (.slice ad n cap) from (b.block _ S1.out.lt).trans S1.out)
 replace S2 := hid (S2.out.below b (Nat.le_refl _))
 replace S3 := hid (show Boxed (w5.alloc (.cells #[.int .i64 q1, .int .i64 q2, .int .i64 q3, .int .i64 q4, .float .f64 f1, .slice a1 q7 c3, .int .i64 q5, .int .i64 q6, .float .f64 f2, .slice a2 q8 c4] 31)) (w.heap.size + 1 + 1) 26 (.slice none 0 0) from (b.block _ S3.out.lt).trans S3.out)
 replace RK := hid (RK.out.below b (Nat.le_refl _))
 replace RV := hid (RV.out.below b (Nat.le_refl _))
 replace HZ := hid (show w.heap.size + 3 ≤ (w5.alloc (.cells #[.int .i64 q1, .int .i64 q2, .int .i64 q3, .int .i64 q4, .float .f64 f1, .slice a1 q7 c3, .int .i64 q5, .int .i64 q6, .float .f64 f2, .slice a2 q8 c4] 31)).heap.size by have := HZ.out; have := b.size; omega)
 clear b
 clear bX b5
 have c1 := S1.out.cell
 go_wp2_with fail
 refine (spec_HeapOk cap HR.out hl).mono ?_
 rintro e W ⟨rfl, b⟩
 replace HR := hid (HR.out.below b (Nat.le_refl _))
 replace HB := hid (HB.out.trans (b.mono HB.out.size))
 replace S1 := hid (show Boxed (W) w.heap.size 26 (.slice ad n cap) from (b.block _ S1.out.lt).trans S1.out)
 replace S2 := hid (S2.out.below b (Nat.le_refl _))
 replace S3 := hid (show Boxed (W) (w.heap.size + 1 + 1) 26 (.slice none 0 0) from (b.block _ S3.out.lt).trans S3.out)
 replace RK := hid (RK.out.below b (Nat.le_refl _))
 replace RV := hid (RV.out.below b (Nat.le_refl _))
 replace HZ := hid (show w.heap.size + 3 ≤ (W).heap.size by have := HZ.out; have := b.size; omega)
 clear b
 clear c1
 cases hok : okH ps with
 | false =>
  have HNO := hid (putHOk_no (ps := ps) (x := x) (y := y) (okt := okT A B K N f tn L M h2 tm) (bz := bytesT A B K N f tn zs L M h2 tm ys) (lsn := lsn) (.inl hok))
  go_wp2_with (refine wpList_store_row rfl 26 (.tmp 10) (.tmp 47) rfl (w.heap.size + 1 + 1) #[.slice none 0 0] rfl rfl 26 _ S3.out ?s1 ?s2 ?s3 ?_)
  case s1 => simpa using size_hp
  try (case s2 => rfl)
  case s3 => simp [Value.oneCell']
  refine bodyPost_ret (results_cell_tmp Tryz.results10 _ _ (w.heap.size + 1 + 1) 26 #[.slice none 0 0] (0, 0) _ rfl (setRow_heap _ _ _ _ _ _ S3.out) Tryz.underlying26 rfl size_hp) rfl ?_
  rw [HNO.out, putH_no HNO.out]
  exact AnsH.zero rfl (below_setRow HB.out (by omega) _)
 | true =>
  have HOK := hid hok
  clear hok
  have hn16 : n ≤ 16 := by have := (okH_of HOK.out).1; omega
  obtain ⟨u0, u1, u2, u3, u4, u5, u6, u7, u8, u9⟩ := S2.out
  go_wp2_with fail
  clear u0 u1 u2 u3 u4 u5 u6 u7 u8 u9
  refine (spec_TupleOk A B K N f ta tn tc L M h2 tb tm td hf hh htn htm W).mono ?_
  rintro e W2 ⟨rfl, b⟩
  replace HR := hid (HR.out.below b (Nat.le_refl _))
  replace HB := hid (HB.out.trans (b.mono HB.out.size))
  replace S1 := hid (show Boxed (W2) w.heap.size 26 (.slice ad n cap) from (b.block _ S1.out.lt).trans S1.out)
  replace S2 := hid (S2.out.below b (Nat.le_refl _))
  replace S3 := hid (show Boxed (W2) (w.heap.size + 1 + 1) 26 (.slice none 0 0) from (b.block _ S3.out.lt).trans S3.out)
  replace RK := hid (RK.out.below b (Nat.le_refl _))
  replace RV := hid (RV.out.below b (Nat.le_refl _))
  replace HZ := hid (show w.heap.size + 3 ≤ (W2).heap.size by have := HZ.out; have := b.size; omega)
  clear b
  cases hot : okT A B K N f tn L M h2 tm with
  | false =>
   have HNO := hid (putHOk_no (ps := ps) (x := x) (y := y) (okt := okT A B K N f tn L M h2 tm) (bz := bytesT A B K N f tn zs L M h2 tm ys) (lsn := lsn) (.inr (.inl hot)))
   go_wp2_with (refine wpList_store_row rfl 26 (.tmp 10) (.tmp 47) rfl (w.heap.size + 1 + 1) #[.slice none 0 0] rfl rfl 26 _ S3.out ?t1 ?t2 ?t3 ?_)
   case t1 => simpa using size_hp
   try (case t2 => rfl)
   case t3 => simp [Value.oneCell']
   refine bodyPost_ret (results_cell_tmp Tryz.results10 _ _ (w.heap.size + 1 + 1) 26 #[.slice none 0 0] (0, 0) _ rfl (setRow_heap _ _ _ _ _ _ S3.out) Tryz.underlying26 rfl size_hp) rfl ?_
   rw [HNO.out, putH_no HNO.out]
   exact AnsH.zero rfl (below_setRow HB.out (by omega) _)
  | true =>
   have HOT := hid hot
   clear hot
   cases tk with
   | true =>
    have HNO := hid (putHOk_no (ps := ps) (x := x) (y := y) (okt := okT A B K N f tn L M h2 tm) (bz := bytesT A B K N f tn zs L M h2 tm ys) (lsn := lsn) (.inr (.inr (.inl HTK.out))))
    go_wp2_with (refine wpList_store_row rfl 26 (.tmp 10) (.tmp 47) rfl (w.heap.size + 1 + 1) #[.slice none 0 0] rfl rfl 26 _ S3.out ?u1 ?u2 ?u3 ?_)
    case u1 => simpa using size_hp
    try (case u2 => rfl)
    case u3 => simp [Value.oneCell']
    refine bodyPost_ret (results_cell_tmp Tryz.results10 _ _ (w.heap.size + 1 + 1) 26 #[.slice none 0 0] (0, 0) _ rfl (setRow_heap _ _ _ _ _ _ S3.out) Tryz.underlying26 rfl size_hp) rfl ?_
    rw [HNO.out, putH_no HNO.out]
    exact AnsH.zero rfl (below_setRow HB.out (by omega) _)
   | false =>
    have c1 := S1.out.cell
    go_wp2_with fail
    refine (spec_inP _ _ _ _).mono ?_
    rintro e wz ⟨rfl, e1⟩
    subst wz
    by_cases hx : 0 ≤ x ∧ x ≤ (n : Int)
    · rw [decide_eq_true hx]
      by_cases hx15 : (16 : Int) ≤ x
      · clear c1
        have HNO := hid (putHOk_no (ps := ps) (x := x) (y := y) (okt := okT A B K N f tn L M h2 tm) (bz := bytesT A B K N f tn zs L M h2 tm ys) (lsn := lsn) (.inr (.inr (.inr (fun z => by omega)))))
        go_wp2_with (refine wpList_store_row rfl 26 (.tmp 10) (.tmp 47) rfl (w.heap.size + 1 + 1) #[.slice none 0 0] rfl rfl 26 _ S3.out ?v1 ?v2 ?v3 ?_)
        case v1 => simpa using size_hp
        try (case v2 => rfl)
        case v3 => simp [Value.oneCell']
        refine bodyPost_ret (results_cell_tmp Tryz.results10 _ _ (w.heap.size + 1 + 1) 26 #[.slice none 0 0] (0, 0) _ rfl (setRow_heap _ _ _ _ _ _ S3.out) Tryz.underlying26 rfl size_hp) rfl ?_
        rw [HNO.out, putH_no HNO.out]
        exact AnsH.zero rfl (below_setRow HB.out (by omega) _)
      · obtain ⟨q, rfl⟩ : ∃ q : Nat, x = q := ⟨x.toNat, by omega⟩
        have hqn : q ≤ n := by omega
        have hq15 : q ≤ 15 := by omega
        have hq0 : (0 : Int) ≤ (q : Int) := by omega
        obtain ⟨RL, RS, hRR⟩ : ∃ RL RS, putP (ps.getD q pg0).1 (ps.getD q pg0).2 y (bytesT A B K N f tn zs L M h2 tm ys) lsn = (RL, RS) := ⟨_, _, rfl⟩
        obtain ⟨ok, hkk⟩ : ∃ ok, putOk (ps.getD q pg0).1 (ps.getD q pg0).2 y (bytesT A B K N f tn zs L M h2 tm ys) lsn = ok := ⟨_, rfl⟩
        have HPO := hid (show putHOk ps (q : Int) y (okT A B K N f tn L M h2 tm) (bytesT A B K N f tn zs L M h2 tm ys) lsn = ok by rw [putHOk_yes HOK.out HOT.out HTK.out ⟨by omega, by omega, by omega⟩, Int.toNat_natCast, hkk])
        have HPH0 := hid (show putH ps (q : Int) y (okT A B K N f tn L M h2 tm) (bytesT A B K N f tn zs L M h2 tm ys) lsn = if ok = true then withH ps q (RL, RS) else [] by unfold putH; rw [HPO.out, Int.toNat_natCast, hRR])
        have HRR := hid hRR
        have HKK := hid hkk
        clear hx hRR hkk
        go_wp2_with fail
        refine (spec_l10copy cap HR.out hl HOK.out).mono ?_
        rintro e w6 ⟨ao, co, rfl, og, b⟩
        have HLO := hid (show w.heap.size + 3 ≤ W2.heap.size ∧ W2.heap.size ≤ w6.heap.size from ⟨HZ.out, b.size⟩)
        have S20 := S2
        have S30 := S3
        have RK0 := RK
        have RV0 := RV
        have HB0 := HB
        have B06 := hid b
        replace HR := hid (HR.out.below b (Nat.le_refl _))
        replace HB := hid (HB.out.trans (b.mono HB.out.size))
        replace S1 := hid (show Boxed (w6) w.heap.size 26 (.slice ad n cap) from (b.block _ S1.out.lt).trans S1.out)
        replace S2 := hid (S2.out.below b (Nat.le_refl _))
        replace S3 := hid (show Boxed (w6) (w.heap.size + 1 + 1) 26 (.slice none 0 0) from (b.block _ S3.out.lt).trans S3.out)
        replace RK := hid (RK.out.below b (Nat.le_refl _))
        replace RV := hid (RV.out.below b (Nat.le_refl _))
        replace HZ := hid (show w.heap.size + 3 ≤ (w6).heap.size by have := HZ.out; have := b.size; omega)
        clear b
        clear c1
        have OG6 := hid og
        clear og
        generalize hLO : W2.heap.size = LO at *
        have HLE := hid (Nat.le_of_eq hLO)
        clear hLO
        by_cases hqlt : q < n
        · skip
          have hne : ¬ (q : Int) = (n : Int) := by omega
          obtain ⟨g, rfl, hgl, hgu⟩ := OG6.out.block hl (by omega)
          have bX := Below.alloc1 w6 (.cells #[.slice (some ⟨g, 0, none⟩) n co] 26)
          have BOX := hid (Boxed.new w6 26 (.slice (some ⟨g, 0, none⟩) n co))
          have b := bX
          have OGV := hid (show OwnG (w6.alloc (.cells #[.slice (some ⟨g, 0, none⟩) n co] 26)) LO (w6.alloc (.cells #[.slice (some ⟨g, 0, none⟩) n co] 26)).heap.size (.slice (some ⟨g, 0, none⟩) n co) (padH ps q) by rw [padH_in (by omega)]; exact (OG6.out.below bX (Nat.le_refl _)).mono (Nat.le_refl _) bX.size)
          have HNL := hid (show (padH ps q).length = n by rw [padH_in (by omega), hl])
          have HBG := hid (show w6.heap.size ≠ g by omega)
          have HLO2 := HLO
          replace HR := hid (HR.out.below b (Nat.le_refl _))
          replace HB := hid (HB.out.trans (b.mono HB.out.size))
          replace S1 := hid (show Boxed (w6.alloc (.cells #[.slice (some ⟨g, 0, none⟩) n co] 26)) w.heap.size 26 (.slice ad n cap) from (b.block _ S1.out.lt).trans S1.out)
          replace S2 := hid (S2.out.below b (Nat.le_refl _))
          replace S3 := hid (show Boxed (w6.alloc (.cells #[.slice (some ⟨g, 0, none⟩) n co] 26)) (w.heap.size + 1 + 1) 26 (.slice none 0 0) from (b.block _ S3.out.lt).trans S3.out)
          replace RK := hid (RK.out.below b (Nat.le_refl _))
          replace RV := hid (RV.out.below b (Nat.le_refl _))
          replace HZ := hid (show w.heap.size + 3 ≤ (w6.alloc (.cells #[.slice (some ⟨g, 0, none⟩) n co] 26)).heap.size by have := HZ.out; have := b.size; omega)
          clear b
          have c14 := BOX.out.cell
          clear bX hgl hgu HLO2 S20 S30 RK0 RV0 HB0 B06 HLE
          obtain ⟨BO, hBO⟩ : ∃ BO, w6.heap.size = BO := ⟨_, rfl⟩
          go_wp2_with fail
          generalize w6.alloc (.cells #[.slice (some ⟨g, 0, none⟩) n co] 26) = V at *
          rw [hBO] at BOX HBG
          try simp only [hBO]
          rw [hBO] at HLO c14
          obtain ⟨pa, pc, hp1, hp2, hrp⟩ := OGV.out.page HNL.out (q := q) (by omega)
          rw [padH_at] at hp1 hp2 hrp
          obtain ⟨mm, hmm⟩ : ∃ mm, (ps.getD q pg0).2.length = mm := ⟨_, rfl⟩
          rw [hmm] at hp2
          have HMM := hid hmm
          have hgq := OGV.out.block HNL.out (by omega)
          obtain ⟨g2, eg, hg1, hg2⟩ := hgq
          obtain rfl : g = g2 := by cases eg; rfl
          have HGB := hid (show LO ≤ g ∧ g < V.heap.size from ⟨hg1, hg2⟩)
          have HRP := hid hrp.rd
          have HNe := hid (show (ps.getD q pg0).1 = (ps.getD q pg0).1 from rfl)
          generalize (ps.getD q pg0).1 = PA at *
          generalize (ps.getD q pg0).2 = SS at *
          clear hmm hrp eg hg1 hg2 HNe
          have hqN' : (q : Int) < (((n) : Nat) : Int) := by omega
          have hqN2 : (q : Int) < (q : Int) + 1 := by omega
          have HKp := hid (show ∀ X, Below V.heap.size V X → X.cell? ⟨BO, 0, none⟩ = some (.slice (some ⟨g, 0, none⟩) (n) co) ∧ Pg2 X g (q * 2) PA (.slice pa mm pc) ∧ BoxT X (w.heap.size + 1) A B K N f ta tn tc L M h2 tb tm td from fun X bX => ⟨(bX.cell (p := ⟨BO, 0, none⟩) BOX.out.lt).trans BOX.out.cell, ⟨(bX.cell (p := ⟨g, q * 2, none⟩) (World.block_lt_of_cell? _ _ hp1)).trans hp1, (bX.cell (p := ⟨g, q * 2 + 1, none⟩) (World.block_lt_of_cell? _ _ hp2)).trans hp2⟩, S2.out.below bX (Nat.le_refl _)⟩)
          have HLT := hid (show BO < V.heap.size ∧ g < V.heap.size ∧ w.heap.size + 1 < V.heap.size ∧ w.heap.size + 1 + 1 < V.heap.size from ⟨BOX.out.lt, HGB.out.2, S2.out.lt, S3.out.lt⟩)
          clear hp1 hp2
          go_wp2_with fail
          have BD := hid ((Still.drew V).below V.heap.size)
          refine region_K 99 (fun X => X.cell? ⟨BO, 0, none⟩ = some (.slice (some ⟨g, 0, none⟩) (n) co) ∧ Pg2 X g (q * 2) PA (.slice pa mm pc) ∧ BoxT X (w.heap.size + 1) A B K N f ta tn tc L M h2 tb tm td) (by kernel_rfl) ?_ (fun hHeld => ?_)
          · exact HKp.out _ BD.out
          generalize V.drew = v0 at *
          refine anyK_take2 (i := 0) (v := ?v1) rfl (by kernel_rfl) (by kernel_rfl) (by kernel_rfl) (by rfl) (fun _ _ _ h => h) (by rfl) hHeld ?hy1 (some 62) (by rfl) ?rest1
          case hy1 => (intro W hSw; obtain ⟨x0, ⟨x1, x2⟩, ⟨u0, u1, u2, u3, u4, u5, u6, u7, u8, u9⟩⟩ := hSw; go_simp; (try with_reducible rfl))
          try simp only [Act.put]
          try simp only [List.setIfInBounds_toArray]
          try simp only [List.set_cons_succ, List.set_cons_zero]
          refine anyK_take2 (i := 1) (v := ?v2) rfl (by kernel_rfl) (by kernel_rfl) (by kernel_rfl) (by rfl) (fun _ _ _ h => h) (by rfl) hHeld ?hy2 (some 63) (by rfl) ?rest2
          case hy2 => (intro W hSw; obtain ⟨x0, ⟨x1, x2⟩, ⟨u0, u1, u2, u3, u4, u5, u6, u7, u8, u9⟩⟩ := hSw; go_simp; (try with_reducible rfl))
          try simp only [Act.put]
          try simp only [List.setIfInBounds_toArray]
          try simp only [List.set_cons_succ, List.set_cons_zero]
          refine anyK_take2 (i := 2) (v := ?v3) rfl (by kernel_rfl) (by kernel_rfl) (by kernel_rfl) (by rfl) (fun _ _ _ h => h) (by rfl) hHeld ?hy3 (some 64) (by rfl) ?rest3
          case hy3 => (intro W hSw; obtain ⟨x0, ⟨x1, x2⟩, ⟨u0, u1, u2, u3, u4, u5, u6, u7, u8, u9⟩⟩ := hSw; go_simp; (try with_reducible rfl))
          try simp only [Act.put]
          try simp only [List.setIfInBounds_toArray]
          try simp only [List.set_cons_succ, List.set_cons_zero]
          refine anyK_take2 (i := 3) (v := ?v4) rfl (by kernel_rfl) (by kernel_rfl) (by kernel_rfl) (by rfl) (fun _ _ _ h => h) (by rfl) hHeld ?hy4 (some 65) (by rfl) ?rest4
          case hy4 => (intro W hSw; obtain ⟨x0, ⟨x1, x2⟩, ⟨u0, u1, u2, u3, u4, u5, u6, u7, u8, u9⟩⟩ := hSw; go_simp; (try with_reducible rfl))
          try simp only [Act.put]
          try simp only [List.setIfInBounds_toArray]
          try simp only [List.set_cons_succ, List.set_cons_zero]
          refine anyK_take2 (i := 4) (v := ?v5) rfl (by kernel_rfl) (by kernel_rfl) (by kernel_rfl) (by rfl) (fun _ _ _ h => h) (by rfl) hHeld ?hy5 (some 66) (by rfl) ?rest5
          case hy5 => (intro W hSw; obtain ⟨x0, ⟨x1, x2⟩, ⟨u0, u1, u2, u3, u4, u5, u6, u7, u8, u9⟩⟩ := hSw; go_simp; (try with_reducible rfl))
          try simp only [Act.put]
          try simp only [List.setIfInBounds_toArray]
          try simp only [List.set_cons_succ, List.set_cons_zero]
          refine anyK_take2 (i := 5) (v := ?v6) rfl (by kernel_rfl) (by kernel_rfl) (by kernel_rfl) (by rfl) (fun _ _ _ h => h) (by rfl) hHeld ?hy6 (some 67) (by rfl) ?rest6
          case hy6 => (intro W hSw; obtain ⟨x0, ⟨x1, x2⟩, ⟨u0, u1, u2, u3, u4, u5, u6, u7, u8, u9⟩⟩ := hSw; go_simp; (try with_reducible rfl))
          try simp only [Act.put]
          try simp only [List.setIfInBounds_toArray]
          try simp only [List.set_cons_succ, List.set_cons_zero]
          refine anyK_take2 (i := 6) (v := ?v7) rfl (by kernel_rfl) (by kernel_rfl) (by kernel_rfl) (by rfl) (fun _ _ _ h => h) (by rfl) hHeld ?hy7 (some 68) (by rfl) ?rest7
          case hy7 => (intro W hSw; obtain ⟨x0, ⟨x1, x2⟩, ⟨u0, u1, u2, u3, u4, u5, u6, u7, u8, u9⟩⟩ := hSw; go_simp; (try with_reducible rfl))
          try simp only [Act.put]
          try simp only [List.setIfInBounds_toArray]
          try simp only [List.set_cons_succ, List.set_cons_zero]
          refine anyK_take2 (i := 8) (v := ?v8) rfl (by kernel_rfl) (by kernel_rfl) (by kernel_rfl) (by rfl) (fun _ _ _ h => h) (by rfl) hHeld ?hy8 (some 70) (by rfl) ?rest8
          case hy8 => (intro W hSw; obtain ⟨x0, ⟨x1, x2⟩, ⟨u0, u1, u2, u3, u4, u5, u6, u7, u8, u9⟩⟩ := hSw; go_simp; (try with_reducible rfl))
          try simp only [Act.put]
          try simp only [List.setIfInBounds_toArray]
          try simp only [List.set_cons_succ, List.set_cons_zero]
          refine anyK_two (i := 7) (j := 13) (by kernel_rfl) rfl rfl (fun KP hK => ?_) (fun KP hK => ?_)
          · skip
            go_simp
            refine (spec_TupleBytes A B K N f tc L M h2 td (RK.out.below BD.out (Nat.le_refl _)) (RV.out.below BD.out (Nat.le_refl _)) HNI.out HNJ.out htn htm hN hM hf hh).mono ?_
            rintro e w7 ⟨v7, rfl, o7, b7⟩
            obtain ⟨a7, c7, rfl⟩ := own_sl o7
            have RD7 := hid (reads_of10 o7 HBY.out)
            have NL7 := hid (own_nil10 o7)
            have B7 := hid (BD.out.trans (b7.mono BD.out.size))
            have HB73 := hid b7
            have HS73 := hid b7.size
            clear o7 b7
            obtain ⟨nb, hnb⟩ : ∃ nb, (bytesT A B K N f tn zs L M h2 tm ys).length = nb := ⟨_, rfl⟩
            rw [hnb] at RD7 ⊢
            clear hnb
            go_wp2_with fail
            refine hK.out _ _ ?_ (fun hH2 => ?_)
            · exact HKp.out _ B7.out
            clear hK KP hHeld
            have hHeld := hH2
            clear hH2
            try simp only [Act.put]
            try simp only [List.setIfInBounds_toArray]
            try simp only [List.set_cons_succ, List.set_cons_zero]
            refine anyK_two (i := 9) (j := 13) (by kernel_rfl) rfl rfl (fun KP hK => ?_) (fun KP hK => ?_)
            · skip
              go_simp
              refine (spec_PagePut PA pc y c7 lsn (HRP.out.below B7.out (Nat.le_refl _)) HMM.out RD7.out NL7.out HRR.out HKK.out rfl).mono ?_
              rintro e w9 ⟨a', c', rfl, op, b9⟩
              have B9 := hid (B7.out.trans (b9.mono B7.out.size))
              have OP := hid op
              have HLU := hid (show V.heap.size ≤ w7.heap.size ∧ w7.heap.size ≤ w9.heap.size from ⟨B7.out.size, b9.size⟩)
              clear op b9
              go_wp2_with fail
              refine hK.out _ _ ?_ (fun hH2 => ?_)
              · exact HKp.out _ B9.out
              clear hK KP hHeld
              have hHeld := hH2
              clear hH2
              try simp only [Act.put]
              try simp only [List.setIfInBounds_toArray]
              try simp only [List.set_cons_succ, List.set_cons_zero]
              refine anyK_take2 (i := 10) (v := ?v9) rfl (by kernel_rfl) (by kernel_rfl) (by kernel_rfl) (by rfl) (fun _ _ _ h => h) (by rfl) hHeld ?hy9 (some 61) (by rfl) ?rest9
              case hy9 => (intro W hSw; obtain ⟨x0, ⟨x1, x2⟩, ⟨u0, u1, u2, u3, u4, u5, u6, u7, u8, u9⟩⟩ := hSw; go_simp; (try with_reducible rfl))
              try simp only [Act.put]
              try simp only [List.setIfInBounds_toArray]
              try simp only [List.set_cons_succ, List.set_cons_zero]
              refine anyK_take2 (i := 11) (v := ?v10) rfl (by kernel_rfl) (by kernel_rfl) (by kernel_rfl) (by rfl) (fun _ _ _ h => h) (by rfl) hHeld ?hy10 (some 72) (by rfl) ?rest10
              case hy10 => (intro W hSw; obtain ⟨x0, ⟨x1, x2⟩, ⟨u0, u1, u2, u3, u4, u5, u6, u7, u8, u9⟩⟩ := hSw; go_simp; (try with_reducible rfl))
              try simp only [Act.put]
              try simp only [List.setIfInBounds_toArray]
              try simp only [List.set_cons_succ, List.set_cons_zero]
              refine anyK_take2 (i := 12) (v := ?v11) rfl (by kernel_rfl) (by kernel_rfl) (by kernel_rfl) (by rfl) (fun _ _ _ h => h) (by rfl) hHeld ?hy11 (some 73) (by rfl) ?rest11
              case hy11 => (intro W hSw; obtain ⟨x0, ⟨x1, x2⟩, ⟨u0, u1, u2, u3, u4, u5, u6, u7, u8, u9⟩⟩ := hSw; go_simp; (try with_reducible rfl))
              try simp only [Act.put]
              try simp only [List.setIfInBounds_toArray]
              try simp only [List.set_cons_succ, List.set_cons_zero]
              refine anyK_step (i := 13) (by kernel_rfl) rfl (fun KP hK => ?_)
              go_simp
              have bZ := Below.alloc1 w9 (.cells #[.int .i64 0, .slice none 0 0] 87)
              have BC9 := hid (B9.out.trans (bZ.mono B9.out.size))
              have RPB := hid (heap_alloc_new w9 (.cells #[.int .i64 0, .slice none 0 0] 87))
              have OPc := hid (op_alloc OP.out (.cells #[.int .i64 0, .slice none 0 0] 87))
              have HPB := hid (show V.heap.size ≤ w9.heap.size ∧ (w9.heap.size < w7.heap.size ∨ w9.heap.size ≤ w9.heap.size) by have := HLU.out; omega)
              clear bZ
              refine hK.out _ _ ?_ (fun hH2 => ?_)
              · exact HKp.out _ BC9.out
              clear hK KP hHeld
              have hHeld := hH2
              clear hH2
              try simp only [Act.put]
              try simp only [List.setIfInBounds_toArray]
              try simp only [List.set_cons_succ, List.set_cons_zero]
              have ZW := hid (alloc_size w9 (.cells #[.int .i64 0, .slice none 0 0] 87))
              generalize w9.alloc (.cells #[.int .i64 0, .slice none 0 0] 87) = wc at *
              obtain ⟨PB, hPB⟩ : ∃ PB, w9.heap.size = PB := ⟨_, rfl⟩
              have HPB2 := hid hPB
              rw [hPB] at RPB
              try simp only [hPB]
              have hlt := HLT.out
              have hpb := HPB.out
              have r0 : wc.cell? ⟨PB, 0, none⟩ = some (.int .i64 0) := cell_of_row _ _ 0 _ _ _ RPB.out
              have r1 : wc.cell? ⟨PB, 1, none⟩ = some (.slice none 0 0) := cell_of_row _ _ 1 _ _ _ RPB.out
              have rf0 : wc.frozen? ⟨PB, 0, none⟩ = false := frozen_of_row _ _ _ _ _ RPB.out
              have rf1 : wc.frozen? ⟨PB, 1, none⟩ = false := frozen_of_row _ _ _ _ _ RPB.out
              have U1 := heap_setCell_same wc PB 0 _ 87 (.int .i64 RL) RPB.out
              have U2 := hid (heap_setCell_same _ PB 1 _ 87 (.slice a' RS.length c') U1)
              have KF : ∀ b, b ≠ PB → ((wc.setCell ⟨PB, 0, none⟩ (.int .i64 RL)).setCell ⟨PB, 1, none⟩ (.slice a' RS.length c')).heap[b]? = wc.heap[b]? := fun b hb => (heap_set_ne _ (PB) 1 b (.slice a' RS.length c') hb).trans (heap_set_ne wc (PB) 0 b (.int .i64 RL) hb)
              have BF := hid ((BC9.out.setCell (p := ⟨PB, 0, none⟩) (by show V.heap.size ≤ PB; omega) (.int .i64 RL)).setCell (p := ⟨PB, 1, none⟩) (by show V.heap.size ≤ PB; omega) (.slice a' RS.length c'))
              have HE := hid (HKp.out _ BF.out)
              have OF := hid (OPc.out.agree (w' := ((wc.setCell ⟨PB, 0, none⟩ (.int .i64 RL)).setCell ⟨PB, 1, none⟩ (.slice a' RS.length c'))) (fun k h1 h2 => KF k (by omega)))
              have HSF := hid (show w9.heap.size ≤ ((wc.setCell ⟨PB, 0, none⟩ (.int .i64 RL)).setCell ⟨PB, 1, none⟩ (.slice a' RS.length c')).heap.size ∧ wc.heap.size = ((wc.setCell ⟨PB, 0, none⟩ (.int .i64 RL)).setCell ⟨PB, 1, none⟩ (.slice a' RS.length c')).heap.size by rw [set_size, set_size]; exact ⟨(by have := ZW.out; omega), rfl⟩)
              clear U1 KF hlt hpb
              refine anyK_step (i := 14) (by kernel_rfl) rfl (fun KP hK => ?_)
              go_simp
              refine hK.out _ _ ?_ (fun hH2 => ?_)
              · exact HE.out
              clear hK KP hHeld
              have hHeld := hH2
              clear hH2
              try simp only [Act.put]
              try simp only [List.setIfInBounds_toArray]
              try simp only [List.set_cons_succ, List.set_cons_zero]
              refine anyK_step (i := 15) (by kernel_rfl) rfl (fun KP hK => ?_)
              go_simp
              refine hK.out _ _ ?_ (fun hH2 => ?_)
              · exact HE.out
              clear hK KP hHeld
              have hHeld := hH2
              clear hH2
              try simp only [Act.put]
              try simp only [List.setIfInBounds_toArray]
              try simp only [List.set_cons_succ, List.set_cons_zero]
              refine anyK_done (by kernel_rfl) ?_ _
              clear hHeld r0 r1 rf0 rf1
              have FG := hid (OGV.out.below BF.out (Nat.le_refl _))
              have FBO := hid (show Boxed ((wc.setCell ⟨PB, 0, none⟩ (.int .i64 RL)).setCell ⟨PB, 1, none⟩ (.slice a' RS.length c')) BO 26 (.slice (some ⟨g, 0, none⟩) (n) co) from (BF.out.block _ BOX.out.lt).trans BOX.out)
              have FS3 := hid (show Boxed ((wc.setCell ⟨PB, 0, none⟩ (.int .i64 RL)).setCell ⟨PB, 1, none⟩ (.slice a' RS.length c')) (w.heap.size + 1 + 1) 26 (.slice none 0 0) from (BF.out.block _ S3.out.lt).trans S3.out)
              have FB := hid (HB.out.trans (BF.out.mono HB.out.size))
              generalize ((wc.setCell ⟨PB, 0, none⟩ (.int .i64 RL)).setCell ⟨PB, 1, none⟩ (.slice a' RS.length c')) = FF at *
              have hlo := HLO.out
              have hgb := HGB.out
              have hlt := HLT.out
              have hlu := HLU.out
              have hpb := HPB.out
              have hsf := HSF.out
              cases ok with
              | false =>
               have HNO := hid (show putHOk ps (q : Int) y (okT A B K N f tn L M h2 tm) (bytesT A B K N f tn zs L M h2 tm ys) lsn = false from HPO.out)
               go_wp2_with (refine wpList_store_row rfl 26 (.tmp 10) (.tmp 76) rfl (w.heap.size + 1 + 1) #[.slice none 0 0] rfl rfl 26 _ FS3.out ?xab1 ?xab2 ?xab3 ?_)
               case xab1 => simpa using size_hp
               try (case xab2 => rfl)
               case xab3 => simp [Value.oneCell']
               refine bodyPost_ret (results_cell_tmp Tryz.results10 _ _ (w.heap.size + 1 + 1) 26 #[.slice none 0 0] (0, 0) _ rfl (setRow_heap _ _ _ _ _ _ FS3.out) Tryz.underlying26 rfl size_hp) rfl ?_
               rw [HNO.out, putH_no HNO.out]
               exact AnsH.zero rfl (below_setRow FB.out (by omega) _)
              | true =>
               have HPH := hid (show putH ps (q : Int) y (okT A B K N f tn L M h2 tm) (bytesT A B K N f tn zs L M h2 tm ys) lsn = withH ps q (RL, RS) by have := HPH0.out; simpa using this)
               have t0 : FF.cell? ⟨PB, 0, none⟩ = some (.int .i64 RL) := cell_of_row _ _ 0 _ _ _ U2.out
               have t1 : FF.cell? ⟨PB, 1, none⟩ = some (.slice a' RS.length c') := cell_of_row _ _ 1 _ _ _ U2.out
               have t2 := FBO.out.cell
               obtain ⟨⟨vv1, hcy⟩, ⟨vv2, hcz⟩, hfr, hfz⟩ := FG.out.cells2 HNL.out (q := q) (by omega)
               have OGF := hid (OwnG.swap (A := RL) (lo' := LO) (hi' := FF.heap.size) FG.out HNL.out (i := q) (by omega) OF.out (.inr (by omega)) (Nat.le_refl _) (by omega) (by omega) (by omega))
               have hd : ((FF.setCell ⟨g, q * 2, none⟩ (.int .i64 RL)).setCell ⟨g, q * 2 + 1, none⟩ (.slice a' RS.length c')).cell? ⟨BO, 0, none⟩ = some (.slice (some ⟨g, 0, none⟩) (n) co) := (World.cell?_of_block ((heap_set_ne _ g (q * 2 + 1) BO (.slice a' RS.length c') HBG.out).trans (heap_set_ne FF g (q * 2) BO (.int .i64 RL) HBG.out))).trans t2
               have VF := hid ((heap_set_ne _ g (q * 2 + 1) (w.heap.size + 1 + 1) (.slice a' RS.length c') (by omega)).trans ((heap_set_ne FF g (q * 2) (w.heap.size + 1 + 1) (.int .i64 RL) (by omega)).trans FS3.out))
               have BFF := hid ((FB.out.setCell (p := ⟨g, q * 2, none⟩) (by show w.heap.size ≤ g; omega) (.int .i64 RL)).setCell (p := ⟨g, q * 2 + 1, none⟩) (by show w.heap.size ≤ g; omega) (.slice a' RS.length c'))
               clear FG OF FBO FS3
               have hqN3 : (q : Int) < (q : Int) + 1 := by omega
               go_wp2_with (refine wpList_store_row rfl 26 (.tmp 10) (.tmp 82) rfl (w.heap.size + 1 + 1) #[.slice (some ⟨g, 0, none⟩) (n) co] rfl rfl 26 _ VF.out ?xbb1 ?xbb2 ?xbb3 ?_)
               case xbb1 => simpa using size_hp
               try (case xbb2 => rfl)
               case xbb3 => simp [Value.oneCell']
               refine bodyPost_ret (results_cell_tmp Tryz.results10 _ _ (w.heap.size + 1 + 1) 26 #[.slice (some ⟨g, 0, none⟩) (n) co] (0, 0) _ rfl (setRow_heap _ _ _ _ _ _ VF.out) Tryz.underlying26 rfl size_hp) rfl ?_
               have hlen : (withH ps q (RL, RS)).length = n := by rw [withH, List.length_set, HNL.out]
               rw [HPO.out, HPH.out]
               exact ⟨some ⟨g, 0, none⟩, co, by rw [hlen]; rfl, by rw [hlen]; exact (OGF.out.agree (fun k h1 _ => setRow_other _ _ _ _ (by omega))).mono (by omega) (by simp), below_setRow BFF.out (by omega) _⟩
            · skip
              go_simp
              have bZ := Below.alloc1 w7 (.cells #[.int .i64 0, .slice none 0 0] 87)
              have B13 := hid (B7.out.trans (bZ.mono B7.out.size))
              have RPB0 := hid (heap_alloc_new w7 (.cells #[.int .i64 0, .slice none 0 0] 87))
              have ZW := hid (alloc_size w7 (.cells #[.int .i64 0, .slice none 0 0] 87))
              replace RD7 := hid (RD7.out.below bZ (Nat.le_refl _))
              clear bZ
              refine hK.out _ _ ?_ (fun hH2 => ?_)
              · exact HKp.out _ B13.out
              clear hK KP hHeld
              have hHeld := hH2
              clear hH2
              try simp only [Act.put]
              try simp only [List.setIfInBounds_toArray]
              try simp only [List.set_cons_succ, List.set_cons_zero]
              generalize w7.alloc (.cells #[.int .i64 0, .slice none 0 0] 87) = w13 at *
              refine anyK_step (i := 9) (by kernel_rfl) rfl (fun KP hK => ?_)
              go_simp
              refine (spec_PagePut PA pc y c7 lsn (HRP.out.below B13.out (Nat.le_refl _)) HMM.out RD7.out NL7.out HRR.out HKK.out rfl).mono ?_
              rintro e w9 ⟨a', c', rfl, op, b9⟩
              have B9 := hid (B13.out.trans (b9.mono B13.out.size))
              have OP := hid op
              have HLU := hid (show V.heap.size ≤ w13.heap.size ∧ w13.heap.size ≤ w9.heap.size from ⟨B13.out.size, b9.size⟩)
              have RPB1 := hid ((b9.block w7.heap.size (by have := ZW.out; omega)).trans RPB0.out)
              clear op b9
              go_wp2_with fail
              refine hK.out _ _ ?_ (fun hH2 => ?_)
              · exact HKp.out _ B9.out
              clear hK KP hHeld
              have hHeld := hH2
              clear hH2
              try simp only [Act.put]
              try simp only [List.setIfInBounds_toArray]
              try simp only [List.set_cons_succ, List.set_cons_zero]
              refine anyK_take2 (i := 10) (v := ?v12) rfl (by kernel_rfl) (by kernel_rfl) (by kernel_rfl) (by rfl) (fun _ _ _ h => h) (by rfl) hHeld ?hy12 (some 61) (by rfl) ?rest12
              case hy12 => (intro W hSw; obtain ⟨x0, ⟨x1, x2⟩, ⟨u0, u1, u2, u3, u4, u5, u6, u7, u8, u9⟩⟩ := hSw; go_simp; (try with_reducible rfl))
              try simp only [Act.put]
              try simp only [List.setIfInBounds_toArray]
              try simp only [List.set_cons_succ, List.set_cons_zero]
              refine anyK_take2 (i := 11) (v := ?v13) rfl (by kernel_rfl) (by kernel_rfl) (by kernel_rfl) (by rfl) (fun _ _ _ h => h) (by rfl) hHeld ?hy13 (some 72) (by rfl) ?rest13
              case hy13 => (intro W hSw; obtain ⟨x0, ⟨x1, x2⟩, ⟨u0, u1, u2, u3, u4, u5, u6, u7, u8, u9⟩⟩ := hSw; go_simp; (try with_reducible rfl))
              try simp only [Act.put]
              try simp only [List.setIfInBounds_toArray]
              try simp only [List.set_cons_succ, List.set_cons_zero]
              refine anyK_take2 (i := 12) (v := ?v14) rfl (by kernel_rfl) (by kernel_rfl) (by kernel_rfl) (by rfl) (fun _ _ _ h => h) (by rfl) hHeld ?hy14 (some 73) (by rfl) ?rest14
              case hy14 => (intro W hSw; obtain ⟨x0, ⟨x1, x2⟩, ⟨u0, u1, u2, u3, u4, u5, u6, u7, u8, u9⟩⟩ := hSw; go_simp; (try with_reducible rfl))
              try simp only [Act.put]
              try simp only [List.setIfInBounds_toArray]
              try simp only [List.set_cons_succ, List.set_cons_zero]
              have BC9 := B9
              have OPc := OP
              have HPB0 := hid (show V.heap.size ≤ w7.heap.size ∧ (w7.heap.size < w13.heap.size ∨ w9.heap.size ≤ w7.heap.size) by have := ZW.out; have := B7.out.size; omega)
              obtain ⟨PB, hPB⟩ : ∃ PB, w7.heap.size = PB := ⟨_, rfl⟩
              rw [hPB] at RPB1 HPB0
              have RPB := RPB1
              have HPB := HPB0
              try simp only [hPB]
              have hlt := HLT.out
              have hpb := HPB.out
              have r0 : w9.cell? ⟨PB, 0, none⟩ = some (.int .i64 0) := cell_of_row _ _ 0 _ _ _ RPB.out
              have r1 : w9.cell? ⟨PB, 1, none⟩ = some (.slice none 0 0) := cell_of_row _ _ 1 _ _ _ RPB.out
              have rf0 : w9.frozen? ⟨PB, 0, none⟩ = false := frozen_of_row _ _ _ _ _ RPB.out
              have rf1 : w9.frozen? ⟨PB, 1, none⟩ = false := frozen_of_row _ _ _ _ _ RPB.out
              have U1 := heap_setCell_same w9 PB 0 _ 87 (.int .i64 RL) RPB.out
              have U2 := hid (heap_setCell_same _ PB 1 _ 87 (.slice a' RS.length c') U1)
              have KF : ∀ b, b ≠ PB → ((w9.setCell ⟨PB, 0, none⟩ (.int .i64 RL)).setCell ⟨PB, 1, none⟩ (.slice a' RS.length c')).heap[b]? = w9.heap[b]? := fun b hb => (heap_set_ne _ (PB) 1 b (.slice a' RS.length c') hb).trans (heap_set_ne w9 (PB) 0 b (.int .i64 RL) hb)
              have BF := hid ((BC9.out.setCell (p := ⟨PB, 0, none⟩) (by show V.heap.size ≤ PB; omega) (.int .i64 RL)).setCell (p := ⟨PB, 1, none⟩) (by show V.heap.size ≤ PB; omega) (.slice a' RS.length c'))
              have HE := hid (HKp.out _ BF.out)
              have OF := hid (OPc.out.agree (w' := ((w9.setCell ⟨PB, 0, none⟩ (.int .i64 RL)).setCell ⟨PB, 1, none⟩ (.slice a' RS.length c'))) (fun k h1 h2 => KF k (by omega)))
              have HSF := hid (show w9.heap.size ≤ ((w9.setCell ⟨PB, 0, none⟩ (.int .i64 RL)).setCell ⟨PB, 1, none⟩ (.slice a' RS.length c')).heap.size ∧ w9.heap.size = ((w9.setCell ⟨PB, 0, none⟩ (.int .i64 RL)).setCell ⟨PB, 1, none⟩ (.slice a' RS.length c')).heap.size by rw [set_size, set_size]; exact ⟨Nat.le_refl _, rfl⟩)
              clear U1 KF hlt hpb
              refine anyK_step (i := 14) (by kernel_rfl) rfl (fun KP hK => ?_)
              go_simp
              refine hK.out _ _ ?_ (fun hH2 => ?_)
              · exact HE.out
              clear hK KP hHeld
              have hHeld := hH2
              clear hH2
              try simp only [Act.put]
              try simp only [List.setIfInBounds_toArray]
              try simp only [List.set_cons_succ, List.set_cons_zero]
              refine anyK_step (i := 15) (by kernel_rfl) rfl (fun KP hK => ?_)
              go_simp
              refine hK.out _ _ ?_ (fun hH2 => ?_)
              · exact HE.out
              clear hK KP hHeld
              have hHeld := hH2
              clear hH2
              try simp only [Act.put]
              try simp only [List.setIfInBounds_toArray]
              try simp only [List.set_cons_succ, List.set_cons_zero]
              refine anyK_done (by kernel_rfl) ?_ _
              clear hHeld r0 r1 rf0 rf1
              have FG := hid (OGV.out.below BF.out (Nat.le_refl _))
              have FBO := hid (show Boxed ((w9.setCell ⟨PB, 0, none⟩ (.int .i64 RL)).setCell ⟨PB, 1, none⟩ (.slice a' RS.length c')) BO 26 (.slice (some ⟨g, 0, none⟩) (n) co) from (BF.out.block _ BOX.out.lt).trans BOX.out)
              have FS3 := hid (show Boxed ((w9.setCell ⟨PB, 0, none⟩ (.int .i64 RL)).setCell ⟨PB, 1, none⟩ (.slice a' RS.length c')) (w.heap.size + 1 + 1) 26 (.slice none 0 0) from (BF.out.block _ S3.out.lt).trans S3.out)
              have FB := hid (HB.out.trans (BF.out.mono HB.out.size))
              generalize ((w9.setCell ⟨PB, 0, none⟩ (.int .i64 RL)).setCell ⟨PB, 1, none⟩ (.slice a' RS.length c')) = FF at *
              have hlo := HLO.out
              have hgb := HGB.out
              have hlt := HLT.out
              have hlu := HLU.out
              have hpb := HPB.out
              have hsf := HSF.out
              cases ok with
              | false =>
               have HNO := hid (show putHOk ps (q : Int) y (okT A B K N f tn L M h2 tm) (bytesT A B K N f tn zs L M h2 tm ys) lsn = false from HPO.out)
               go_wp2_with (refine wpList_store_row rfl 26 (.tmp 10) (.tmp 76) rfl (w.heap.size + 1 + 1) #[.slice none 0 0] rfl rfl 26 _ FS3.out ?xac1 ?xac2 ?xac3 ?_)
               case xac1 => simpa using size_hp
               try (case xac2 => rfl)
               case xac3 => simp [Value.oneCell']
               refine bodyPost_ret (results_cell_tmp Tryz.results10 _ _ (w.heap.size + 1 + 1) 26 #[.slice none 0 0] (0, 0) _ rfl (setRow_heap _ _ _ _ _ _ FS3.out) Tryz.underlying26 rfl size_hp) rfl ?_
               rw [HNO.out, putH_no HNO.out]
               exact AnsH.zero rfl (below_setRow FB.out (by omega) _)
              | true =>
               have HPH := hid (show putH ps (q : Int) y (okT A B K N f tn L M h2 tm) (bytesT A B K N f tn zs L M h2 tm ys) lsn = withH ps q (RL, RS) by have := HPH0.out; simpa using this)
               have t0 : FF.cell? ⟨PB, 0, none⟩ = some (.int .i64 RL) := cell_of_row _ _ 0 _ _ _ U2.out
               have t1 : FF.cell? ⟨PB, 1, none⟩ = some (.slice a' RS.length c') := cell_of_row _ _ 1 _ _ _ U2.out
               have t2 := FBO.out.cell
               obtain ⟨⟨vv1, hcy⟩, ⟨vv2, hcz⟩, hfr, hfz⟩ := FG.out.cells2 HNL.out (q := q) (by omega)
               have OGF := hid (OwnG.swap (A := RL) (lo' := LO) (hi' := FF.heap.size) FG.out HNL.out (i := q) (by omega) OF.out (.inr (by omega)) (Nat.le_refl _) (by omega) (by omega) (by omega))
               have hd : ((FF.setCell ⟨g, q * 2, none⟩ (.int .i64 RL)).setCell ⟨g, q * 2 + 1, none⟩ (.slice a' RS.length c')).cell? ⟨BO, 0, none⟩ = some (.slice (some ⟨g, 0, none⟩) (n) co) := (World.cell?_of_block ((heap_set_ne _ g (q * 2 + 1) BO (.slice a' RS.length c') HBG.out).trans (heap_set_ne FF g (q * 2) BO (.int .i64 RL) HBG.out))).trans t2
               have VF := hid ((heap_set_ne _ g (q * 2 + 1) (w.heap.size + 1 + 1) (.slice a' RS.length c') (by omega)).trans ((heap_set_ne FF g (q * 2) (w.heap.size + 1 + 1) (.int .i64 RL) (by omega)).trans FS3.out))
               have BFF := hid ((FB.out.setCell (p := ⟨g, q * 2, none⟩) (by show w.heap.size ≤ g; omega) (.int .i64 RL)).setCell (p := ⟨g, q * 2 + 1, none⟩) (by show w.heap.size ≤ g; omega) (.slice a' RS.length c'))
               clear FG OF FBO FS3
               have hqN3 : (q : Int) < (q : Int) + 1 := by omega
               go_wp2_with (refine wpList_store_row rfl 26 (.tmp 10) (.tmp 82) rfl (w.heap.size + 1 + 1) #[.slice (some ⟨g, 0, none⟩) (n) co] rfl rfl 26 _ VF.out ?xbc1 ?xbc2 ?xbc3 ?_)
               case xbc1 => simpa using size_hp
               try (case xbc2 => rfl)
               case xbc3 => simp [Value.oneCell']
               refine bodyPost_ret (results_cell_tmp Tryz.results10 _ _ (w.heap.size + 1 + 1) 26 #[.slice (some ⟨g, 0, none⟩) (n) co] (0, 0) _ rfl (setRow_heap _ _ _ _ _ _ VF.out) Tryz.underlying26 rfl size_hp) rfl ?_
               have hlen : (withH ps q (RL, RS)).length = n := by rw [withH, List.length_set, HNL.out]
               rw [HPO.out, HPH.out]
               exact ⟨some ⟨g, 0, none⟩, co, by rw [hlen]; rfl, by rw [hlen]; exact (OGF.out.agree (fun k h1 _ => setRow_other _ _ _ _ (by omega))).mono (by omega) (by simp), below_setRow BFF.out (by omega) _⟩
          · skip
            go_simp
            have bZ := Below.alloc1 v0 (.cells #[.int .i64 0, .slice none 0 0] 87)
            have B13 := hid (BD.out.trans (bZ.mono BD.out.size))
            have RPB0 := hid (heap_alloc_new v0 (.cells #[.int .i64 0, .slice none 0 0] 87))
            have ZW := hid (alloc_size v0 (.cells #[.int .i64 0, .slice none 0 0] 87))
            clear bZ
            refine hK.out _ _ ?_ (fun hH2 => ?_)
            · exact HKp.out _ B13.out
            clear hK KP hHeld
            have hHeld := hH2
            clear hH2
            try simp only [Act.put]
            try simp only [List.setIfInBounds_toArray]
            try simp only [List.set_cons_succ, List.set_cons_zero]
            generalize v0.alloc (.cells #[.int .i64 0, .slice none 0 0] 87) = w13 at *
            refine anyK_step (i := 7) (by kernel_rfl) rfl (fun KP hK => ?_)
            go_simp
            refine (spec_TupleBytes A B K N f tc L M h2 td (RK.out.below B13.out (Nat.le_refl _)) (RV.out.below B13.out (Nat.le_refl _)) HNI.out HNJ.out htn htm hN hM hf hh).mono ?_
            rintro e w7 ⟨v7, rfl, o7, b7⟩
            obtain ⟨a7, c7, rfl⟩ := own_sl o7
            have RD7 := hid (reads_of10 o7 HBY.out)
            have NL7 := hid (own_nil10 o7)
            have B7 := hid (B13.out.trans (b7.mono B13.out.size))
            have HB73 := hid b7
            have HS73 := hid b7.size
            clear o7 b7
            obtain ⟨nb, hnb⟩ : ∃ nb, (bytesT A B K N f tn zs L M h2 tm ys).length = nb := ⟨_, rfl⟩
            rw [hnb] at RD7 ⊢
            clear hnb
            go_wp2_with fail
            refine hK.out _ _ ?_ (fun hH2 => ?_)
            · exact HKp.out _ B7.out
            clear hK KP hHeld
            have hHeld := hH2
            clear hH2
            try simp only [Act.put]
            try simp only [List.setIfInBounds_toArray]
            try simp only [List.set_cons_succ, List.set_cons_zero]
            refine anyK_step (i := 9) (by kernel_rfl) rfl (fun KP hK => ?_)
            go_simp
            refine (spec_PagePut PA pc y c7 lsn (HRP.out.below B7.out (Nat.le_refl _)) HMM.out RD7.out NL7.out HRR.out HKK.out rfl).mono ?_
            rintro e w9 ⟨a', c', rfl, op, b9⟩
            have B9 := hid (B7.out.trans (b9.mono B7.out.size))
            have OP := hid op
            have HLU := hid (show V.heap.size ≤ w7.heap.size ∧ w7.heap.size ≤ w9.heap.size from ⟨B7.out.size, b9.size⟩)
            have RPB1 := hid ((b9.block v0.heap.size (by have := ZW.out; have := HS73.out; omega)).trans ((HB73.out.block v0.heap.size (by have := ZW.out; omega)).trans RPB0.out))
            clear op b9
            go_wp2_with fail
            refine hK.out _ _ ?_ (fun hH2 => ?_)
            · exact HKp.out _ B9.out
            clear hK KP hHeld
            have hHeld := hH2
            clear hH2
            try simp only [Act.put]
            try simp only [List.setIfInBounds_toArray]
            try simp only [List.set_cons_succ, List.set_cons_zero]
            refine anyK_take2 (i := 10) (v := ?v15) rfl (by kernel_rfl) (by kernel_rfl) (by kernel_rfl) (by rfl) (fun _ _ _ h => h) (by rfl) hHeld ?hy15 (some 61) (by rfl) ?rest15
            case hy15 => (intro W hSw; obtain ⟨x0, ⟨x1, x2⟩, ⟨u0, u1, u2, u3, u4, u5, u6, u7, u8, u9⟩⟩ := hSw; go_simp; (try with_reducible rfl))
            try simp only [Act.put]
            try simp only [List.setIfInBounds_toArray]
            try simp only [List.set_cons_succ, List.set_cons_zero]
            refine anyK_take2 (i := 11) (v := ?v16) rfl (by kernel_rfl) (by kernel_rfl) (by kernel_rfl) (by rfl) (fun _ _ _ h => h) (by rfl) hHeld ?hy16 (some 72) (by rfl) ?rest16
            case hy16 => (intro W hSw; obtain ⟨x0, ⟨x1, x2⟩, ⟨u0, u1, u2, u3, u4, u5, u6, u7, u8, u9⟩⟩ := hSw; go_simp; (try with_reducible rfl))
            try simp only [Act.put]
            try simp only [List.setIfInBounds_toArray]
            try simp only [List.set_cons_succ, List.set_cons_zero]
            refine anyK_take2 (i := 12) (v := ?v17) rfl (by kernel_rfl) (by kernel_rfl) (by kernel_rfl) (by rfl) (fun _ _ _ h => h) (by rfl) hHeld ?hy17 (some 73) (by rfl) ?rest17
            case hy17 => (intro W hSw; obtain ⟨x0, ⟨x1, x2⟩, ⟨u0, u1, u2, u3, u4, u5, u6, u7, u8, u9⟩⟩ := hSw; go_simp; (try with_reducible rfl))
            try simp only [Act.put]
            try simp only [List.setIfInBounds_toArray]
            try simp only [List.set_cons_succ, List.set_cons_zero]
            have BC9 := B9
            have OPc := OP
            have HPB0 := hid (show V.heap.size ≤ v0.heap.size ∧ (v0.heap.size < w7.heap.size ∨ w9.heap.size ≤ v0.heap.size) by have := ZW.out; have := BD.out.size; have := HS73.out; omega)
            obtain ⟨PB, hPB⟩ : ∃ PB, v0.heap.size = PB := ⟨_, rfl⟩
            rw [hPB] at RPB1 HPB0
            have RPB := RPB1
            have HPB := HPB0
            try simp only [hPB]
            have hlt := HLT.out
            have hpb := HPB.out
            have r0 : w9.cell? ⟨PB, 0, none⟩ = some (.int .i64 0) := cell_of_row _ _ 0 _ _ _ RPB.out
            have r1 : w9.cell? ⟨PB, 1, none⟩ = some (.slice none 0 0) := cell_of_row _ _ 1 _ _ _ RPB.out
            have rf0 : w9.frozen? ⟨PB, 0, none⟩ = false := frozen_of_row _ _ _ _ _ RPB.out
            have rf1 : w9.frozen? ⟨PB, 1, none⟩ = false := frozen_of_row _ _ _ _ _ RPB.out
            have U1 := heap_setCell_same w9 PB 0 _ 87 (.int .i64 RL) RPB.out
            have U2 := hid (heap_setCell_same _ PB 1 _ 87 (.slice a' RS.length c') U1)
            have KF : ∀ b, b ≠ PB → ((w9.setCell ⟨PB, 0, none⟩ (.int .i64 RL)).setCell ⟨PB, 1, none⟩ (.slice a' RS.length c')).heap[b]? = w9.heap[b]? := fun b hb => (heap_set_ne _ (PB) 1 b (.slice a' RS.length c') hb).trans (heap_set_ne w9 (PB) 0 b (.int .i64 RL) hb)
            have BF := hid ((BC9.out.setCell (p := ⟨PB, 0, none⟩) (by show V.heap.size ≤ PB; omega) (.int .i64 RL)).setCell (p := ⟨PB, 1, none⟩) (by show V.heap.size ≤ PB; omega) (.slice a' RS.length c'))
            have HE := hid (HKp.out _ BF.out)
            have OF := hid (OPc.out.agree (w' := ((w9.setCell ⟨PB, 0, none⟩ (.int .i64 RL)).setCell ⟨PB, 1, none⟩ (.slice a' RS.length c'))) (fun k h1 h2 => KF k (by omega)))
            have HSF := hid (show w9.heap.size ≤ ((w9.setCell ⟨PB, 0, none⟩ (.int .i64 RL)).setCell ⟨PB, 1, none⟩ (.slice a' RS.length c')).heap.size ∧ w9.heap.size = ((w9.setCell ⟨PB, 0, none⟩ (.int .i64 RL)).setCell ⟨PB, 1, none⟩ (.slice a' RS.length c')).heap.size by rw [set_size, set_size]; exact ⟨Nat.le_refl _, rfl⟩)
            clear U1 KF hlt hpb
            refine anyK_step (i := 14) (by kernel_rfl) rfl (fun KP hK => ?_)
            go_simp
            refine hK.out _ _ ?_ (fun hH2 => ?_)
            · exact HE.out
            clear hK KP hHeld
            have hHeld := hH2
            clear hH2
            try simp only [Act.put]
            try simp only [List.setIfInBounds_toArray]
            try simp only [List.set_cons_succ, List.set_cons_zero]
            refine anyK_step (i := 15) (by kernel_rfl) rfl (fun KP hK => ?_)
            go_simp
            refine hK.out _ _ ?_ (fun hH2 => ?_)
            · exact HE.out
            clear hK KP hHeld
            have hHeld := hH2
            clear hH2
            try simp only [Act.put]
            try simp only [List.setIfInBounds_toArray]
            try simp only [List.set_cons_succ, List.set_cons_zero]
            refine anyK_done (by kernel_rfl) ?_ _
            clear hHeld r0 r1 rf0 rf1
            have FG := hid (OGV.out.below BF.out (Nat.le_refl _))
            have FBO := hid (show Boxed ((w9.setCell ⟨PB, 0, none⟩ (.int .i64 RL)).setCell ⟨PB, 1, none⟩ (.slice a' RS.length c')) BO 26 (.slice (some ⟨g, 0, none⟩) (n) co) from (BF.out.block _ BOX.out.lt).trans BOX.out)
            have FS3 := hid (show Boxed ((w9.setCell ⟨PB, 0, none⟩ (.int .i64 RL)).setCell ⟨PB, 1, none⟩ (.slice a' RS.length c')) (w.heap.size + 1 + 1) 26 (.slice none 0 0) from (BF.out.block _ S3.out.lt).trans S3.out)
            have FB := hid (HB.out.trans (BF.out.mono HB.out.size))
            generalize ((w9.setCell ⟨PB, 0, none⟩ (.int .i64 RL)).setCell ⟨PB, 1, none⟩ (.slice a' RS.length c')) = FF at *
            have hlo := HLO.out
            have hgb := HGB.out
            have hlt := HLT.out
            have hlu := HLU.out
            have hpb := HPB.out
            have hsf := HSF.out
            cases ok with
            | false =>
             have HNO := hid (show putHOk ps (q : Int) y (okT A B K N f tn L M h2 tm) (bytesT A B K N f tn zs L M h2 tm ys) lsn = false from HPO.out)
             go_wp2_with (refine wpList_store_row rfl 26 (.tmp 10) (.tmp 76) rfl (w.heap.size + 1 + 1) #[.slice none 0 0] rfl rfl 26 _ FS3.out ?xad1 ?xad2 ?xad3 ?_)
             case xad1 => simpa using size_hp
             try (case xad2 => rfl)
             case xad3 => simp [Value.oneCell']
             refine bodyPost_ret (results_cell_tmp Tryz.results10 _ _ (w.heap.size + 1 + 1) 26 #[.slice none 0 0] (0, 0) _ rfl (setRow_heap _ _ _ _ _ _ FS3.out) Tryz.underlying26 rfl size_hp) rfl ?_
             rw [HNO.out, putH_no HNO.out]
             exact AnsH.zero rfl (below_setRow FB.out (by omega) _)
            | true =>
             have HPH := hid (show putH ps (q : Int) y (okT A B K N f tn L M h2 tm) (bytesT A B K N f tn zs L M h2 tm ys) lsn = withH ps q (RL, RS) by have := HPH0.out; simpa using this)
             have t0 : FF.cell? ⟨PB, 0, none⟩ = some (.int .i64 RL) := cell_of_row _ _ 0 _ _ _ U2.out
             have t1 : FF.cell? ⟨PB, 1, none⟩ = some (.slice a' RS.length c') := cell_of_row _ _ 1 _ _ _ U2.out
             have t2 := FBO.out.cell
             obtain ⟨⟨vv1, hcy⟩, ⟨vv2, hcz⟩, hfr, hfz⟩ := FG.out.cells2 HNL.out (q := q) (by omega)
             have OGF := hid (OwnG.swap (A := RL) (lo' := LO) (hi' := FF.heap.size) FG.out HNL.out (i := q) (by omega) OF.out (.inr (by omega)) (Nat.le_refl _) (by omega) (by omega) (by omega))
             have hd : ((FF.setCell ⟨g, q * 2, none⟩ (.int .i64 RL)).setCell ⟨g, q * 2 + 1, none⟩ (.slice a' RS.length c')).cell? ⟨BO, 0, none⟩ = some (.slice (some ⟨g, 0, none⟩) (n) co) := (World.cell?_of_block ((heap_set_ne _ g (q * 2 + 1) BO (.slice a' RS.length c') HBG.out).trans (heap_set_ne FF g (q * 2) BO (.int .i64 RL) HBG.out))).trans t2
             have VF := hid ((heap_set_ne _ g (q * 2 + 1) (w.heap.size + 1 + 1) (.slice a' RS.length c') (by omega)).trans ((heap_set_ne FF g (q * 2) (w.heap.size + 1 + 1) (.int .i64 RL) (by omega)).trans FS3.out))
             have BFF := hid ((FB.out.setCell (p := ⟨g, q * 2, none⟩) (by show w.heap.size ≤ g; omega) (.int .i64 RL)).setCell (p := ⟨g, q * 2 + 1, none⟩) (by show w.heap.size ≤ g; omega) (.slice a' RS.length c'))
             clear FG OF FBO FS3
             have hqN3 : (q : Int) < (q : Int) + 1 := by omega
             go_wp2_with (refine wpList_store_row rfl 26 (.tmp 10) (.tmp 82) rfl (w.heap.size + 1 + 1) #[.slice (some ⟨g, 0, none⟩) (n) co] rfl rfl 26 _ VF.out ?xbd1 ?xbd2 ?xbd3 ?_)
             case xbd1 => simpa using size_hp
             try (case xbd2 => rfl)
             case xbd3 => simp [Value.oneCell']
             refine bodyPost_ret (results_cell_tmp Tryz.results10 _ _ (w.heap.size + 1 + 1) 26 #[.slice (some ⟨g, 0, none⟩) (n) co] (0, 0) _ rfl (setRow_heap _ _ _ _ _ _ VF.out) Tryz.underlying26 rfl size_hp) rfl ?_
             have hlen : (withH ps q (RL, RS)).length = n := by rw [withH, List.length_set, HNL.out]
             rw [HPO.out, HPH.out]
             exact ⟨some ⟨g, 0, none⟩, co, by rw [hlen]; rfl, by rw [hlen]; exact (OGF.out.agree (fun k h1 _ => setRow_other _ _ _ _ (by omega))).mono (by omega) (by simp), below_setRow BFF.out (by omega) _⟩
        · have hqe : q = n := by omega
          subst hqe
          have b1 := Below.alloc1 w6 (.cells #[.slice ao q co] 26)
          have bX := Below.alloc1 (w6.alloc (.cells #[.slice ao q co] 26)) (.cells #[.int .i64 0, .slice none 0 0] 87)
          have zb1 := alloc_size w6 (.cells #[.slice ao q co] 26)
          have zbX := alloc_size (w6.alloc (.cells #[.slice ao q co] 26)) (.cells #[.int .i64 0, .slice none 0 0] 87)
          have b2 := b1.trans (bX.mono b1.size)
          have hlo0 := HLO.out
          have hOG := OG6.out.below b2 (Nat.le_refl _)
          obtain ⟨yv, bs, ow, hBd, hqq⟩ := hOG.own
          have hTop := hOG.top
          rw [hl] at ow
          have OW := hid ow
          have HBd := hid hBd
          have HQ := hid hqq
          have HTop := hid hTop
          have BX0 := hid (((Boxed.new w6 26 (.slice ao q co))).alloc (.cells #[.int .i64 0, .slice none 0 0] 87))
          have BV0 := hid (B06.out.trans (b2.mono hlo0.2))
          have rZ := heap_alloc_new (w6.alloc (.cells #[.slice ao q co] 26)) (.cells #[.int .i64 0, .slice none 0 0] 87)
          have ZX := hid (show ((w6.alloc (.cells #[.slice ao q co] 26)).alloc (.cells #[.int .i64 0, .slice none 0 0] 87)).heap.size = w6.heap.size + 2 ∧ (w6.alloc (.cells #[.slice ao q co] 26)).heap.size = w6.heap.size + 1 by omega)
          have c14 := (Boxed.new w6 26 (.slice ao q co)).cell
          clear hOG ow hBd hqq hTop b1 bX b2 zbX
          go_wp2_with (at_builtin; refine wpList_append_at rfl _ _ 24 rfl LO 87 i0 _ 2 32 Tryz.underlying24 hi hz0 hz1 hz2 rfl (by decide) _ _ _ rfl OW.out ⟨w6.heap.size + 1, 0, none⟩ 1 1 [.int .i64 0, .slice none 0 0] rfl rfl ?g1 ?g2 (by unfold maxLen; omega) (by omega) ?g3 ?_)
          case g1 => rw [zb1] at rZ; exact World.news_of_block rZ
          case g2 => intro u hu; simp only [List.mem_cons, List.not_mem_nil, or_false] at hu; rcases hu with rfl | rfl <;> rfl
          case g3 => have := ZX.out; omega
          intro ga cg w8 o8 g8 hp8
          have hrow : ∀ r, (Value.slice ao q co).ownBlock = some r → LO ≤ r ∧ r < w6.heap.size := fun r hr => ⟨(OW.out.lt r hr).1, HTop.out r hr⟩
          have hBX8 := BX0.out.kept g8 (fun e => by have := hrow _ e.symm; omega)
          have hOG8 : OwnG w8 LO w8.heap.size (.slice ga (q + 1) cg) (padH ps q) := by
           have e1 : padH ps q = ps ++ [((0 : Int), ([] : List (List Int)))] := by rw [← hl]; exact padH_end ps
           rw [e1]
           exact OwnG.push (A := 0) (y := nilS) (ss := []) (l := w6.heap.size) (u := w6.heap.size) hl OW.out HBd.out HQ.out HTop.out hlo0.2 (Nat.le_refl _) (by have := ZX.out; omega) (by have := ZX.out; omega) (OwnP.nil _ _ _) o8 g8 (by rw [ZX.out.1]; exact hp8)
          obtain ⟨g, rfl, hgl, hgu⟩ := hOG8.block (by rw [padH_len, hl]; omega) (by omega)
          have HBG := hid (show w6.heap.size ≠ g by
           rcases hp8 with e | e
           · have := hrow g e.symm; omega
           · have e2 : some g = some (w6.heap.size + 1 + 1) := e
             have := Option.some.inj e2; omega)
          have BV1 := BV0.out.grown g8 (by have := ZX.out; omega) (fun r hr => (hrow r hr).1)
          have BV := hid (BV1.setCell (p := ⟨w6.heap.size, 0, none⟩) (by show LO ≤ w6.heap.size; omega) (.slice (some ⟨g, 0, none⟩) (q + 1) cg))
          have hoB : w8.ownsRow 0 26 1 (.slice (some ⟨w6.heap.size, 0, none⟩) 1 1) 1 [.slice ao q co] := ⟨rfl, .inr ⟨w6.heap.size, 1, #[.slice ao q co], rfl, Nat.zero_le _, hBX8, Nat.le_refl _, by unfold maxLen; omega, rfl, rfl⟩⟩
          have OGV := hid ((hOG8.aside hoB (by decide) (by decide) (by decide) (grownBy_setCell' w8 w6.heap.size (.slice (some ⟨g, 0, none⟩) (q + 1) cg))).mono (Nat.le_refl _) (show w8.heap.size ≤ (w8.setCell ⟨w6.heap.size, 0, none⟩ (.slice (some ⟨g, 0, none⟩) (q + 1) cg)).heap.size by rw [set_size]; exact Nat.le_refl _))
          have BOX := hid (hBX8.set (.slice (some ⟨g, 0, none⟩) (q + 1) cg))
          have HNL := hid (show (padH ps q).length = q + 1 by rw [padH_len, hl]; omega)
          have d0 := hBX8.cell
          have d1 := hBX8.frozen
          clear hOG8 BV1 hoB hBX8 o8 g8 hp8 hgl hgu hrow OW HBd HQ HTop BX0 BV0 rZ c14 hlo0
          go_wp2_with fail
          obtain ⟨BO, hBO⟩ : ∃ BO, w6.heap.size = BO := ⟨_, rfl⟩
          clear d0 d1
          rw [hBO] at BOX HBG BV OGV HLO
          try simp only [hBO]
          generalize w8.setCell ⟨BO, 0, none⟩ (.slice (some ⟨g, 0, none⟩) (q + 1) cg) = V at *
          replace RK := hid (RK0.out.below BV.out HLE.out)
          replace RV := hid (RV0.out.below BV.out HLE.out)
          replace S2 := hid (S20.out.below BV.out HLE.out)
          replace S3 := hid (show Boxed V (w.heap.size + 1 + 1) 26 (.slice none 0 0) from (BV.out.block _ (Nat.lt_of_lt_of_le S30.out.lt HLE.out)).trans S30.out)
          replace HB := hid (HB0.out.trans (BV.out.mono (by have := HLO.out; omega)))
          clear S20 S30 RK0 RV0 HB0 B06 HR S1 HZ
          obtain ⟨pa, pc, hp1, hp2, hrp⟩ := OGV.out.page HNL.out (q := q) (by omega)
          rw [padH_at] at hp1 hp2 hrp
          obtain ⟨mm, hmm⟩ : ∃ mm, (ps.getD q pg0).2.length = mm := ⟨_, rfl⟩
          rw [hmm] at hp2
          have HMM := hid hmm
          have hgq := OGV.out.block HNL.out (by omega)
          obtain ⟨g2, eg, hg1, hg2⟩ := hgq
          obtain rfl : g = g2 := by cases eg; rfl
          have HGB := hid (show LO ≤ g ∧ g < V.heap.size from ⟨hg1, hg2⟩)
          have HRP := hid hrp.rd
          have HNe := hid (show (ps.getD q pg0).1 = (ps.getD q pg0).1 from rfl)
          generalize (ps.getD q pg0).1 = PA at *
          generalize (ps.getD q pg0).2 = SS at *
          clear hmm hrp eg hg1 hg2 HNe
          have hqN' : (q : Int) < ((((q + 1)) : Nat) : Int) := by omega
          have hqN2 : (q : Int) < (q : Int) + 1 := by omega
          have HKp := hid (show ∀ X, Below V.heap.size V X → X.cell? ⟨BO, 0, none⟩ = some (.slice (some ⟨g, 0, none⟩) ((q + 1)) cg) ∧ Pg2 X g (q * 2) PA (.slice pa mm pc) ∧ BoxT X (w.heap.size + 1) A B K N f ta tn tc L M h2 tb tm td from fun X bX => ⟨(bX.cell (p := ⟨BO, 0, none⟩) BOX.out.lt).trans BOX.out.cell, ⟨(bX.cell (p := ⟨g, q * 2, none⟩) (World.block_lt_of_cell? _ _ hp1)).trans hp1, (bX.cell (p := ⟨g, q * 2 + 1, none⟩) (World.block_lt_of_cell? _ _ hp2)).trans hp2⟩, S2.out.below bX (Nat.le_refl _)⟩)
          have HLT := hid (show BO < V.heap.size ∧ g < V.heap.size ∧ w.heap.size + 1 < V.heap.size ∧ w.heap.size + 1 + 1 < V.heap.size from ⟨BOX.out.lt, HGB.out.2, S2.out.lt, S3.out.lt⟩)
          clear hp1 hp2
          go_wp2_with fail
          have BD := hid ((Still.drew V).below V.heap.size)
          refine region_K 99 (fun X => X.cell? ⟨BO, 0, none⟩ = some (.slice (some ⟨g, 0, none⟩) ((q + 1)) cg) ∧ Pg2 X g (q * 2) PA (.slice pa mm pc) ∧ BoxT X (w.heap.size + 1) A B K N f ta tn tc L M h2 tb tm td) (by kernel_rfl) ?_ (fun hHeld => ?_)
          · exact HKp.out _ BD.out
          generalize V.drew = v0 at *
          refine anyK_take2 (i := 0) (v := ?v18) rfl (by kernel_rfl) (by kernel_rfl) (by kernel_rfl) (by rfl) (fun _ _ _ h => h) (by rfl) hHeld ?hy18 (some 62) (by rfl) ?rest18
          case hy18 => (intro W hSw; obtain ⟨x0, ⟨x1, x2⟩, ⟨u0, u1, u2, u3, u4, u5, u6, u7, u8, u9⟩⟩ := hSw; go_simp; (try with_reducible rfl))
          try simp only [Act.put]
          try simp only [List.setIfInBounds_toArray]
          try simp only [List.set_cons_succ, List.set_cons_zero]
          refine anyK_take2 (i := 1) (v := ?v19) rfl (by kernel_rfl) (by kernel_rfl) (by kernel_rfl) (by rfl) (fun _ _ _ h => h) (by rfl) hHeld ?hy19 (some 63) (by rfl) ?rest19
          case hy19 => (intro W hSw; obtain ⟨x0, ⟨x1, x2⟩, ⟨u0, u1, u2, u3, u4, u5, u6, u7, u8, u9⟩⟩ := hSw; go_simp; (try with_reducible rfl))
          try simp only [Act.put]
          try simp only [List.setIfInBounds_toArray]
          try simp only [List.set_cons_succ, List.set_cons_zero]
          refine anyK_take2 (i := 2) (v := ?v20) rfl (by kernel_rfl) (by kernel_rfl) (by kernel_rfl) (by rfl) (fun _ _ _ h => h) (by rfl) hHeld ?hy20 (some 64) (by rfl) ?rest20
          case hy20 => (intro W hSw; obtain ⟨x0, ⟨x1, x2⟩, ⟨u0, u1, u2, u3, u4, u5, u6, u7, u8, u9⟩⟩ := hSw; go_simp; (try with_reducible rfl))
          try simp only [Act.put]
          try simp only [List.setIfInBounds_toArray]
          try simp only [List.set_cons_succ, List.set_cons_zero]
          refine anyK_take2 (i := 3) (v := ?v21) rfl (by kernel_rfl) (by kernel_rfl) (by kernel_rfl) (by rfl) (fun _ _ _ h => h) (by rfl) hHeld ?hy21 (some 65) (by rfl) ?rest21
          case hy21 => (intro W hSw; obtain ⟨x0, ⟨x1, x2⟩, ⟨u0, u1, u2, u3, u4, u5, u6, u7, u8, u9⟩⟩ := hSw; go_simp; (try with_reducible rfl))
          try simp only [Act.put]
          try simp only [List.setIfInBounds_toArray]
          try simp only [List.set_cons_succ, List.set_cons_zero]
          refine anyK_take2 (i := 4) (v := ?v22) rfl (by kernel_rfl) (by kernel_rfl) (by kernel_rfl) (by rfl) (fun _ _ _ h => h) (by rfl) hHeld ?hy22 (some 66) (by rfl) ?rest22
          case hy22 => (intro W hSw; obtain ⟨x0, ⟨x1, x2⟩, ⟨u0, u1, u2, u3, u4, u5, u6, u7, u8, u9⟩⟩ := hSw; go_simp; (try with_reducible rfl))
          try simp only [Act.put]
          try simp only [List.setIfInBounds_toArray]
          try simp only [List.set_cons_succ, List.set_cons_zero]
          refine anyK_take2 (i := 5) (v := ?v23) rfl (by kernel_rfl) (by kernel_rfl) (by kernel_rfl) (by rfl) (fun _ _ _ h => h) (by rfl) hHeld ?hy23 (some 67) (by rfl) ?rest23
          case hy23 => (intro W hSw; obtain ⟨x0, ⟨x1, x2⟩, ⟨u0, u1, u2, u3, u4, u5, u6, u7, u8, u9⟩⟩ := hSw; go_simp; (try with_reducible rfl))
          try simp only [Act.put]
          try simp only [List.setIfInBounds_toArray]
          try simp only [List.set_cons_succ, List.set_cons_zero]
          refine anyK_take2 (i := 6) (v := ?v24) rfl (by kernel_rfl) (by kernel_rfl) (by kernel_rfl) (by rfl) (fun _ _ _ h => h) (by rfl) hHeld ?hy24 (some 68) (by rfl) ?rest24
          case hy24 => (intro W hSw; obtain ⟨x0, ⟨x1, x2⟩, ⟨u0, u1, u2, u3, u4, u5, u6, u7, u8, u9⟩⟩ := hSw; go_simp; (try with_reducible rfl))
          try simp only [Act.put]
          try simp only [List.setIfInBounds_toArray]
          try simp only [List.set_cons_succ, List.set_cons_zero]
          refine anyK_take2 (i := 8) (v := ?v25) rfl (by kernel_rfl) (by kernel_rfl) (by kernel_rfl) (by rfl) (fun _ _ _ h => h) (by rfl) hHeld ?hy25 (some 70) (by rfl) ?rest25
          case hy25 => (intro W hSw; obtain ⟨x0, ⟨x1, x2⟩, ⟨u0, u1, u2, u3, u4, u5, u6, u7, u8, u9⟩⟩ := hSw; go_simp; (try with_reducible rfl))
          try simp only [Act.put]
          try simp only [List.setIfInBounds_toArray]
          try simp only [List.set_cons_succ, List.set_cons_zero]
          refine anyK_two (i := 7) (j := 13) (by kernel_rfl) rfl rfl (fun KP hK => ?_) (fun KP hK => ?_)
          · skip
            go_simp
            refine (spec_TupleBytes A B K N f tc L M h2 td (RK.out.below BD.out (Nat.le_refl _)) (RV.out.below BD.out (Nat.le_refl _)) HNI.out HNJ.out htn htm hN hM hf hh).mono ?_
            rintro e w7 ⟨v7, rfl, o7, b7⟩
            obtain ⟨a7, c7, rfl⟩ := own_sl o7
            have RD7 := hid (reads_of10 o7 HBY.out)
            have NL7 := hid (own_nil10 o7)
            have B7 := hid (BD.out.trans (b7.mono BD.out.size))
            have HB73 := hid b7
            have HS73 := hid b7.size
            clear o7 b7
            obtain ⟨nb, hnb⟩ : ∃ nb, (bytesT A B K N f tn zs L M h2 tm ys).length = nb := ⟨_, rfl⟩
            rw [hnb] at RD7 ⊢
            clear hnb
            go_wp2_with fail
            refine hK.out _ _ ?_ (fun hH2 => ?_)
            · exact HKp.out _ B7.out
            clear hK KP hHeld
            have hHeld := hH2
            clear hH2
            try simp only [Act.put]
            try simp only [List.setIfInBounds_toArray]
            try simp only [List.set_cons_succ, List.set_cons_zero]
            refine anyK_two (i := 9) (j := 13) (by kernel_rfl) rfl rfl (fun KP hK => ?_) (fun KP hK => ?_)
            · skip
              go_simp
              refine (spec_PagePut PA pc y c7 lsn (HRP.out.below B7.out (Nat.le_refl _)) HMM.out RD7.out NL7.out HRR.out HKK.out rfl).mono ?_
              rintro e w9 ⟨a', c', rfl, op, b9⟩
              have B9 := hid (B7.out.trans (b9.mono B7.out.size))
              have OP := hid op
              have HLU := hid (show V.heap.size ≤ w7.heap.size ∧ w7.heap.size ≤ w9.heap.size from ⟨B7.out.size, b9.size⟩)
              clear op b9
              go_wp2_with fail
              refine hK.out _ _ ?_ (fun hH2 => ?_)
              · exact HKp.out _ B9.out
              clear hK KP hHeld
              have hHeld := hH2
              clear hH2
              try simp only [Act.put]
              try simp only [List.setIfInBounds_toArray]
              try simp only [List.set_cons_succ, List.set_cons_zero]
              refine anyK_take2 (i := 10) (v := ?v26) rfl (by kernel_rfl) (by kernel_rfl) (by kernel_rfl) (by rfl) (fun _ _ _ h => h) (by rfl) hHeld ?hy26 (some 61) (by rfl) ?rest26
              case hy26 => (intro W hSw; obtain ⟨x0, ⟨x1, x2⟩, ⟨u0, u1, u2, u3, u4, u5, u6, u7, u8, u9⟩⟩ := hSw; go_simp; (try with_reducible rfl))
              try simp only [Act.put]
              try simp only [List.setIfInBounds_toArray]
              try simp only [List.set_cons_succ, List.set_cons_zero]
              refine anyK_take2 (i := 11) (v := ?v27) rfl (by kernel_rfl) (by kernel_rfl) (by kernel_rfl) (by rfl) (fun _ _ _ h => h) (by rfl) hHeld ?hy27 (some 72) (by rfl) ?rest27
              case hy27 => (intro W hSw; obtain ⟨x0, ⟨x1, x2⟩, ⟨u0, u1, u2, u3, u4, u5, u6, u7, u8, u9⟩⟩ := hSw; go_simp; (try with_reducible rfl))
              try simp only [Act.put]
              try simp only [List.setIfInBounds_toArray]
              try simp only [List.set_cons_succ, List.set_cons_zero]
              refine anyK_take2 (i := 12) (v := ?v28) rfl (by kernel_rfl) (by kernel_rfl) (by kernel_rfl) (by rfl) (fun _ _ _ h => h) (by rfl) hHeld ?hy28 (some 73) (by rfl) ?rest28
              case hy28 => (intro W hSw; obtain ⟨x0, ⟨x1, x2⟩, ⟨u0, u1, u2, u3, u4, u5, u6, u7, u8, u9⟩⟩ := hSw; go_simp; (try with_reducible rfl))
              try simp only [Act.put]
              try simp only [List.setIfInBounds_toArray]
              try simp only [List.set_cons_succ, List.set_cons_zero]
              refine anyK_step (i := 13) (by kernel_rfl) rfl (fun KP hK => ?_)
              go_simp
              have bZ := Below.alloc1 w9 (.cells #[.int .i64 0, .slice none 0 0] 87)
              have BC9 := hid (B9.out.trans (bZ.mono B9.out.size))
              have RPB := hid (heap_alloc_new w9 (.cells #[.int .i64 0, .slice none 0 0] 87))
              have OPc := hid (op_alloc OP.out (.cells #[.int .i64 0, .slice none 0 0] 87))
              have HPB := hid (show V.heap.size ≤ w9.heap.size ∧ (w9.heap.size < w7.heap.size ∨ w9.heap.size ≤ w9.heap.size) by have := HLU.out; omega)
              clear bZ
              refine hK.out _ _ ?_ (fun hH2 => ?_)
              · exact HKp.out _ BC9.out
              clear hK KP hHeld
              have hHeld := hH2
              clear hH2
              try simp only [Act.put]
              try simp only [List.setIfInBounds_toArray]
              try simp only [List.set_cons_succ, List.set_cons_zero]
              have ZW := hid (alloc_size w9 (.cells #[.int .i64 0, .slice none 0 0] 87))
              generalize w9.alloc (.cells #[.int .i64 0, .slice none 0 0] 87) = wc at *
              obtain ⟨PB, hPB⟩ : ∃ PB, w9.heap.size = PB := ⟨_, rfl⟩
              have HPB2 := hid hPB
              rw [hPB] at RPB
              try simp only [hPB]
              have hlt := HLT.out
              have hpb := HPB.out
              have r0 : wc.cell? ⟨PB, 0, none⟩ = some (.int .i64 0) := cell_of_row _ _ 0 _ _ _ RPB.out
              have r1 : wc.cell? ⟨PB, 1, none⟩ = some (.slice none 0 0) := cell_of_row _ _ 1 _ _ _ RPB.out
              have rf0 : wc.frozen? ⟨PB, 0, none⟩ = false := frozen_of_row _ _ _ _ _ RPB.out
              have rf1 : wc.frozen? ⟨PB, 1, none⟩ = false := frozen_of_row _ _ _ _ _ RPB.out
              have U1 := heap_setCell_same wc PB 0 _ 87 (.int .i64 RL) RPB.out
              have U2 := hid (heap_setCell_same _ PB 1 _ 87 (.slice a' RS.length c') U1)
              have KF : ∀ b, b ≠ PB → ((wc.setCell ⟨PB, 0, none⟩ (.int .i64 RL)).setCell ⟨PB, 1, none⟩ (.slice a' RS.length c')).heap[b]? = wc.heap[b]? := fun b hb => (heap_set_ne _ (PB) 1 b (.slice a' RS.length c') hb).trans (heap_set_ne wc (PB) 0 b (.int .i64 RL) hb)
              have BF := hid ((BC9.out.setCell (p := ⟨PB, 0, none⟩) (by show V.heap.size ≤ PB; omega) (.int .i64 RL)).setCell (p := ⟨PB, 1, none⟩) (by show V.heap.size ≤ PB; omega) (.slice a' RS.length c'))
              have HE := hid (HKp.out _ BF.out)
              have OF := hid (OPc.out.agree (w' := ((wc.setCell ⟨PB, 0, none⟩ (.int .i64 RL)).setCell ⟨PB, 1, none⟩ (.slice a' RS.length c'))) (fun k h1 h2 => KF k (by omega)))
              have HSF := hid (show w9.heap.size ≤ ((wc.setCell ⟨PB, 0, none⟩ (.int .i64 RL)).setCell ⟨PB, 1, none⟩ (.slice a' RS.length c')).heap.size ∧ wc.heap.size = ((wc.setCell ⟨PB, 0, none⟩ (.int .i64 RL)).setCell ⟨PB, 1, none⟩ (.slice a' RS.length c')).heap.size by rw [set_size, set_size]; exact ⟨(by have := ZW.out; omega), rfl⟩)
              clear U1 KF hlt hpb
              refine anyK_step (i := 14) (by kernel_rfl) rfl (fun KP hK => ?_)
              go_simp
              refine hK.out _ _ ?_ (fun hH2 => ?_)
              · exact HE.out
              clear hK KP hHeld
              have hHeld := hH2
              clear hH2
              try simp only [Act.put]
              try simp only [List.setIfInBounds_toArray]
              try simp only [List.set_cons_succ, List.set_cons_zero]
              refine anyK_step (i := 15) (by kernel_rfl) rfl (fun KP hK => ?_)
              go_simp
              refine hK.out _ _ ?_ (fun hH2 => ?_)
              · exact HE.out
              clear hK KP hHeld
              have hHeld := hH2
              clear hH2
              try simp only [Act.put]
              try simp only [List.setIfInBounds_toArray]
              try simp only [List.set_cons_succ, List.set_cons_zero]
              refine anyK_done (by kernel_rfl) ?_ _
              clear hHeld r0 r1 rf0 rf1
              have FG := hid (OGV.out.below BF.out (Nat.le_refl _))
              have FBO := hid (show Boxed ((wc.setCell ⟨PB, 0, none⟩ (.int .i64 RL)).setCell ⟨PB, 1, none⟩ (.slice a' RS.length c')) BO 26 (.slice (some ⟨g, 0, none⟩) ((q + 1)) cg) from (BF.out.block _ BOX.out.lt).trans BOX.out)
              have FS3 := hid (show Boxed ((wc.setCell ⟨PB, 0, none⟩ (.int .i64 RL)).setCell ⟨PB, 1, none⟩ (.slice a' RS.length c')) (w.heap.size + 1 + 1) 26 (.slice none 0 0) from (BF.out.block _ S3.out.lt).trans S3.out)
              have FB := hid (HB.out.trans (BF.out.mono HB.out.size))
              generalize ((wc.setCell ⟨PB, 0, none⟩ (.int .i64 RL)).setCell ⟨PB, 1, none⟩ (.slice a' RS.length c')) = FF at *
              have hlo := HLO.out
              have hgb := HGB.out
              have hlt := HLT.out
              have hlu := HLU.out
              have hpb := HPB.out
              have hsf := HSF.out
              cases ok with
              | false =>
               have HNO := hid (show putHOk ps (q : Int) y (okT A B K N f tn L M h2 tm) (bytesT A B K N f tn zs L M h2 tm ys) lsn = false from HPO.out)
               go_wp2_with (refine wpList_store_row rfl 26 (.tmp 10) (.tmp 76) rfl (w.heap.size + 1 + 1) #[.slice none 0 0] rfl rfl 26 _ FS3.out ?xae1 ?xae2 ?xae3 ?_)
               case xae1 => simpa using size_hp
               try (case xae2 => rfl)
               case xae3 => simp [Value.oneCell']
               refine bodyPost_ret (results_cell_tmp Tryz.results10 _ _ (w.heap.size + 1 + 1) 26 #[.slice none 0 0] (0, 0) _ rfl (setRow_heap _ _ _ _ _ _ FS3.out) Tryz.underlying26 rfl size_hp) rfl ?_
               rw [HNO.out, putH_no HNO.out]
               exact AnsH.zero rfl (below_setRow FB.out (by omega) _)
              | true =>
               have HPH := hid (show putH ps (q : Int) y (okT A B K N f tn L M h2 tm) (bytesT A B K N f tn zs L M h2 tm ys) lsn = withH ps q (RL, RS) by have := HPH0.out; simpa using this)
               have t0 : FF.cell? ⟨PB, 0, none⟩ = some (.int .i64 RL) := cell_of_row _ _ 0 _ _ _ U2.out
               have t1 : FF.cell? ⟨PB, 1, none⟩ = some (.slice a' RS.length c') := cell_of_row _ _ 1 _ _ _ U2.out
               have t2 := FBO.out.cell
               obtain ⟨⟨vv1, hcy⟩, ⟨vv2, hcz⟩, hfr, hfz⟩ := FG.out.cells2 HNL.out (q := q) (by omega)
               have OGF := hid (OwnG.swap (A := RL) (lo' := LO) (hi' := FF.heap.size) FG.out HNL.out (i := q) (by omega) OF.out (.inr (by omega)) (Nat.le_refl _) (by omega) (by omega) (by omega))
               have hd : ((FF.setCell ⟨g, q * 2, none⟩ (.int .i64 RL)).setCell ⟨g, q * 2 + 1, none⟩ (.slice a' RS.length c')).cell? ⟨BO, 0, none⟩ = some (.slice (some ⟨g, 0, none⟩) ((q + 1)) cg) := (World.cell?_of_block ((heap_set_ne _ g (q * 2 + 1) BO (.slice a' RS.length c') HBG.out).trans (heap_set_ne FF g (q * 2) BO (.int .i64 RL) HBG.out))).trans t2
               have VF := hid ((heap_set_ne _ g (q * 2 + 1) (w.heap.size + 1 + 1) (.slice a' RS.length c') (by omega)).trans ((heap_set_ne FF g (q * 2) (w.heap.size + 1 + 1) (.int .i64 RL) (by omega)).trans FS3.out))
               have BFF := hid ((FB.out.setCell (p := ⟨g, q * 2, none⟩) (by show w.heap.size ≤ g; omega) (.int .i64 RL)).setCell (p := ⟨g, q * 2 + 1, none⟩) (by show w.heap.size ≤ g; omega) (.slice a' RS.length c'))
               clear FG OF FBO FS3
               have hqN3 : (q : Int) < (q : Int) + 1 := by omega
               go_wp2_with (refine wpList_store_row rfl 26 (.tmp 10) (.tmp 82) rfl (w.heap.size + 1 + 1) #[.slice (some ⟨g, 0, none⟩) ((q + 1)) cg] rfl rfl 26 _ VF.out ?xbe1 ?xbe2 ?xbe3 ?_)
               case xbe1 => simpa using size_hp
               try (case xbe2 => rfl)
               case xbe3 => simp [Value.oneCell']
               refine bodyPost_ret (results_cell_tmp Tryz.results10 _ _ (w.heap.size + 1 + 1) 26 #[.slice (some ⟨g, 0, none⟩) ((q + 1)) cg] (0, 0) _ rfl (setRow_heap _ _ _ _ _ _ VF.out) Tryz.underlying26 rfl size_hp) rfl ?_
               have hlen : (withH ps q (RL, RS)).length = (q + 1) := by rw [withH, List.length_set, HNL.out]
               rw [HPO.out, HPH.out]
               exact ⟨some ⟨g, 0, none⟩, cg, by rw [hlen]; rfl, by rw [hlen]; exact (OGF.out.agree (fun k h1 _ => setRow_other _ _ _ _ (by omega))).mono (by omega) (by simp), below_setRow BFF.out (by omega) _⟩
            · skip
              go_simp
              have bZ := Below.alloc1 w7 (.cells #[.int .i64 0, .slice none 0 0] 87)
              have B13 := hid (B7.out.trans (bZ.mono B7.out.size))
              have RPB0 := hid (heap_alloc_new w7 (.cells #[.int .i64 0, .slice none 0 0] 87))
              have ZW := hid (alloc_size w7 (.cells #[.int .i64 0, .slice none 0 0] 87))
              replace RD7 := hid (RD7.out.below bZ (Nat.le_refl _))
              clear bZ
              refine hK.out _ _ ?_ (fun hH2 => ?_)
              · exact HKp.out _ B13.out
              clear hK KP hHeld
              have hHeld := hH2
              clear hH2
              try simp only [Act.put]
              try simp only [List.setIfInBounds_toArray]
              try simp only [List.set_cons_succ, List.set_cons_zero]
              generalize w7.alloc (.cells #[.int .i64 0, .slice none 0 0] 87) = w13 at *
              refine anyK_step (i := 9) (by kernel_rfl) rfl (fun KP hK => ?_)
              go_simp
              refine (spec_PagePut PA pc y c7 lsn (HRP.out.below B13.out (Nat.le_refl _)) HMM.out RD7.out NL7.out HRR.out HKK.out rfl).mono ?_
              rintro e w9 ⟨a', c', rfl, op, b9⟩
              have B9 := hid (B13.out.trans (b9.mono B13.out.size))
              have OP := hid op
              have HLU := hid (show V.heap.size ≤ w13.heap.size ∧ w13.heap.size ≤ w9.heap.size from ⟨B13.out.size, b9.size⟩)
              have RPB1 := hid ((b9.block w7.heap.size (by have := ZW.out; omega)).trans RPB0.out)
              clear op b9
              go_wp2_with fail
              refine hK.out _ _ ?_ (fun hH2 => ?_)
              · exact HKp.out _ B9.out
              clear hK KP hHeld
              have hHeld := hH2
              clear hH2
              try simp only [Act.put]
              try simp only [List.setIfInBounds_toArray]
              try simp only [List.set_cons_succ, List.set_cons_zero]
              refine anyK_take2 (i := 10) (v := ?v29) rfl (by kernel_rfl) (by kernel_rfl) (by kernel_rfl) (by rfl) (fun _ _ _ h => h) (by rfl) hHeld ?hy29 (some 61) (by rfl) ?rest29
              case hy29 => (intro W hSw; obtain ⟨x0, ⟨x1, x2⟩, ⟨u0, u1, u2, u3, u4, u5, u6, u7, u8, u9⟩⟩ := hSw; go_simp; (try with_reducible rfl))
              try simp only [Act.put]
              try simp only [List.setIfInBounds_toArray]
              try simp only [List.set_cons_succ, List.set_cons_zero]
              refine anyK_take2 (i := 11) (v := ?v30) rfl (by kernel_rfl) (by kernel_rfl) (by kernel_rfl) (by rfl) (fun _ _ _ h => h) (by rfl) hHeld ?hy30 (some 72) (by rfl) ?rest30
              case hy30 => (intro W hSw; obtain ⟨x0, ⟨x1, x2⟩, ⟨u0, u1, u2, u3, u4, u5, u6, u7, u8, u9⟩⟩ := hSw; go_simp; (try with_reducible rfl))
              try simp only [Act.put]
              try simp only [List.setIfInBounds_toArray]
              try simp only [List.set_cons_succ, List.set_cons_zero]
              refine anyK_take2 (i := 12) (v := ?v31) rfl (by kernel_rfl) (by kernel_rfl) (by kernel_rfl) (by rfl) (fun _ _ _ h => h) (by rfl) hHeld ?hy31 (some 73) (by rfl) ?rest31
              case hy31 => (intro W hSw; obtain ⟨x0, ⟨x1, x2⟩, ⟨u0, u1, u2, u3, u4, u5, u6, u7, u8, u9⟩⟩ := hSw; go_simp; (try with_reducible rfl))
              try simp only [Act.put]
              try simp only [List.setIfInBounds_toArray]
              try simp only [List.set_cons_succ, List.set_cons_zero]
              have BC9 := B9
              have OPc := OP
              have HPB0 := hid (show V.heap.size ≤ w7.heap.size ∧ (w7.heap.size < w13.heap.size ∨ w9.heap.size ≤ w7.heap.size) by have := ZW.out; have := B7.out.size; omega)
              obtain ⟨PB, hPB⟩ : ∃ PB, w7.heap.size = PB := ⟨_, rfl⟩
              rw [hPB] at RPB1 HPB0
              have RPB := RPB1
              have HPB := HPB0
              try simp only [hPB]
              have hlt := HLT.out
              have hpb := HPB.out
              have r0 : w9.cell? ⟨PB, 0, none⟩ = some (.int .i64 0) := cell_of_row _ _ 0 _ _ _ RPB.out
              have r1 : w9.cell? ⟨PB, 1, none⟩ = some (.slice none 0 0) := cell_of_row _ _ 1 _ _ _ RPB.out
              have rf0 : w9.frozen? ⟨PB, 0, none⟩ = false := frozen_of_row _ _ _ _ _ RPB.out
              have rf1 : w9.frozen? ⟨PB, 1, none⟩ = false := frozen_of_row _ _ _ _ _ RPB.out
              have U1 := heap_setCell_same w9 PB 0 _ 87 (.int .i64 RL) RPB.out
              have U2 := hid (heap_setCell_same _ PB 1 _ 87 (.slice a' RS.length c') U1)
              have KF : ∀ b, b ≠ PB → ((w9.setCell ⟨PB, 0, none⟩ (.int .i64 RL)).setCell ⟨PB, 1, none⟩ (.slice a' RS.length c')).heap[b]? = w9.heap[b]? := fun b hb => (heap_set_ne _ (PB) 1 b (.slice a' RS.length c') hb).trans (heap_set_ne w9 (PB) 0 b (.int .i64 RL) hb)
              have BF := hid ((BC9.out.setCell (p := ⟨PB, 0, none⟩) (by show V.heap.size ≤ PB; omega) (.int .i64 RL)).setCell (p := ⟨PB, 1, none⟩) (by show V.heap.size ≤ PB; omega) (.slice a' RS.length c'))
              have HE := hid (HKp.out _ BF.out)
              have OF := hid (OPc.out.agree (w' := ((w9.setCell ⟨PB, 0, none⟩ (.int .i64 RL)).setCell ⟨PB, 1, none⟩ (.slice a' RS.length c'))) (fun k h1 h2 => KF k (by omega)))
              have HSF := hid (show w9.heap.size ≤ ((w9.setCell ⟨PB, 0, none⟩ (.int .i64 RL)).setCell ⟨PB, 1, none⟩ (.slice a' RS.length c')).heap.size ∧ w9.heap.size = ((w9.setCell ⟨PB, 0, none⟩ (.int .i64 RL)).setCell ⟨PB, 1, none⟩ (.slice a' RS.length c')).heap.size by rw [set_size, set_size]; exact ⟨Nat.le_refl _, rfl⟩)
              clear U1 KF hlt hpb
              refine anyK_step (i := 14) (by kernel_rfl) rfl (fun KP hK => ?_)
              go_simp
              refine hK.out _ _ ?_ (fun hH2 => ?_)
              · exact HE.out
              clear hK KP hHeld
              have hHeld := hH2
              clear hH2
              try simp only [Act.put]
              try simp only [List.setIfInBounds_toArray]
              try simp only [List.set_cons_succ, List.set_cons_zero]
              refine anyK_step (i := 15) (by kernel_rfl) rfl (fun KP hK => ?_)
              go_simp
              refine hK.out _ _ ?_ (fun hH2 => ?_)
              · exact HE.out
              clear hK KP hHeld
              have hHeld := hH2
              clear hH2
              try simp only [Act.put]
              try simp only [List.setIfInBounds_toArray]
              try simp only [List.set_cons_succ, List.set_cons_zero]
              refine anyK_done (by kernel_rfl) ?_ _
              clear hHeld r0 r1 rf0 rf1
              have FG := hid (OGV.out.below BF.out (Nat.le_refl _))
              have FBO := hid (show Boxed ((w9.setCell ⟨PB, 0, none⟩ (.int .i64 RL)).setCell ⟨PB, 1, none⟩ (.slice a' RS.length c')) BO 26 (.slice (some ⟨g, 0, none⟩) ((q + 1)) cg) from (BF.out.block _ BOX.out.lt).trans BOX.out)
              have FS3 := hid (show Boxed ((w9.setCell ⟨PB, 0, none⟩ (.int .i64 RL)).setCell ⟨PB, 1, none⟩ (.slice a' RS.length c')) (w.heap.size + 1 + 1) 26 (.slice none 0 0) from (BF.out.block _ S3.out.lt).trans S3.out)
              have FB := hid (HB.out.trans (BF.out.mono HB.out.size))
              generalize ((w9.setCell ⟨PB, 0, none⟩ (.int .i64 RL)).setCell ⟨PB, 1, none⟩ (.slice a' RS.length c')) = FF at *
              have hlo := HLO.out
              have hgb := HGB.out
              have hlt := HLT.out
              have hlu := HLU.out
              have hpb := HPB.out
              have hsf := HSF.out
              cases ok with
              | false =>
               have HNO := hid (show putHOk ps (q : Int) y (okT A B K N f tn L M h2 tm) (bytesT A B K N f tn zs L M h2 tm ys) lsn = false from HPO.out)
               go_wp2_with (refine wpList_store_row rfl 26 (.tmp 10) (.tmp 76) rfl (w.heap.size + 1 + 1) #[.slice none 0 0] rfl rfl 26 _ FS3.out ?xaf1 ?xaf2 ?xaf3 ?_)
               case xaf1 => simpa using size_hp
               try (case xaf2 => rfl)
               case xaf3 => simp [Value.oneCell']
               refine bodyPost_ret (results_cell_tmp Tryz.results10 _ _ (w.heap.size + 1 + 1) 26 #[.slice none 0 0] (0, 0) _ rfl (setRow_heap _ _ _ _ _ _ FS3.out) Tryz.underlying26 rfl size_hp) rfl ?_
               rw [HNO.out, putH_no HNO.out]
               exact AnsH.zero rfl (below_setRow FB.out (by omega) _)
              | true =>
               have HPH := hid (show putH ps (q : Int) y (okT A B K N f tn L M h2 tm) (bytesT A B K N f tn zs L M h2 tm ys) lsn = withH ps q (RL, RS) by have := HPH0.out; simpa using this)
               have t0 : FF.cell? ⟨PB, 0, none⟩ = some (.int .i64 RL) := cell_of_row _ _ 0 _ _ _ U2.out
               have t1 : FF.cell? ⟨PB, 1, none⟩ = some (.slice a' RS.length c') := cell_of_row _ _ 1 _ _ _ U2.out
               have t2 := FBO.out.cell
               obtain ⟨⟨vv1, hcy⟩, ⟨vv2, hcz⟩, hfr, hfz⟩ := FG.out.cells2 HNL.out (q := q) (by omega)
               have OGF := hid (OwnG.swap (A := RL) (lo' := LO) (hi' := FF.heap.size) FG.out HNL.out (i := q) (by omega) OF.out (.inr (by omega)) (Nat.le_refl _) (by omega) (by omega) (by omega))
               have hd : ((FF.setCell ⟨g, q * 2, none⟩ (.int .i64 RL)).setCell ⟨g, q * 2 + 1, none⟩ (.slice a' RS.length c')).cell? ⟨BO, 0, none⟩ = some (.slice (some ⟨g, 0, none⟩) ((q + 1)) cg) := (World.cell?_of_block ((heap_set_ne _ g (q * 2 + 1) BO (.slice a' RS.length c') HBG.out).trans (heap_set_ne FF g (q * 2) BO (.int .i64 RL) HBG.out))).trans t2
               have VF := hid ((heap_set_ne _ g (q * 2 + 1) (w.heap.size + 1 + 1) (.slice a' RS.length c') (by omega)).trans ((heap_set_ne FF g (q * 2) (w.heap.size + 1 + 1) (.int .i64 RL) (by omega)).trans FS3.out))
               have BFF := hid ((FB.out.setCell (p := ⟨g, q * 2, none⟩) (by show w.heap.size ≤ g; omega) (.int .i64 RL)).setCell (p := ⟨g, q * 2 + 1, none⟩) (by show w.heap.size ≤ g; omega) (.slice a' RS.length c'))
               clear FG OF FBO FS3
               have hqN3 : (q : Int) < (q : Int) + 1 := by omega
               go_wp2_with (refine wpList_store_row rfl 26 (.tmp 10) (.tmp 82) rfl (w.heap.size + 1 + 1) #[.slice (some ⟨g, 0, none⟩) ((q + 1)) cg] rfl rfl 26 _ VF.out ?xbf1 ?xbf2 ?xbf3 ?_)
               case xbf1 => simpa using size_hp
               try (case xbf2 => rfl)
               case xbf3 => simp [Value.oneCell']
               refine bodyPost_ret (results_cell_tmp Tryz.results10 _ _ (w.heap.size + 1 + 1) 26 #[.slice (some ⟨g, 0, none⟩) ((q + 1)) cg] (0, 0) _ rfl (setRow_heap _ _ _ _ _ _ VF.out) Tryz.underlying26 rfl size_hp) rfl ?_
               have hlen : (withH ps q (RL, RS)).length = (q + 1) := by rw [withH, List.length_set, HNL.out]
               rw [HPO.out, HPH.out]
               exact ⟨some ⟨g, 0, none⟩, cg, by rw [hlen]; rfl, by rw [hlen]; exact (OGF.out.agree (fun k h1 _ => setRow_other _ _ _ _ (by omega))).mono (by omega) (by simp), below_setRow BFF.out (by omega) _⟩
          · skip
            go_simp
            have bZ := Below.alloc1 v0 (.cells #[.int .i64 0, .slice none 0 0] 87)
            have B13 := hid (BD.out.trans (bZ.mono BD.out.size))
            have RPB0 := hid (heap_alloc_new v0 (.cells #[.int .i64 0, .slice none 0 0] 87))
            have ZW := hid (alloc_size v0 (.cells #[.int .i64 0, .slice none 0 0] 87))
            clear bZ
            refine hK.out _ _ ?_ (fun hH2 => ?_)
            · exact HKp.out _ B13.out
            clear hK KP hHeld
            have hHeld := hH2
            clear hH2
            try simp only [Act.put]
            try simp only [List.setIfInBounds_toArray]
            try simp only [List.set_cons_succ, List.set_cons_zero]
            generalize v0.alloc (.cells #[.int .i64 0, .slice none 0 0] 87) = w13 at *
            refine anyK_step (i := 7) (by kernel_rfl) rfl (fun KP hK => ?_)
            go_simp
            refine (spec_TupleBytes A B K N f tc L M h2 td (RK.out.below B13.out (Nat.le_refl _)) (RV.out.below B13.out (Nat.le_refl _)) HNI.out HNJ.out htn htm hN hM hf hh).mono ?_
            rintro e w7 ⟨v7, rfl, o7, b7⟩
            obtain ⟨a7, c7, rfl⟩ := own_sl o7
            have RD7 := hid (reads_of10 o7 HBY.out)
            have NL7 := hid (own_nil10 o7)
            have B7 := hid (B13.out.trans (b7.mono B13.out.size))
            have HB73 := hid b7
            have HS73 := hid b7.size
            clear o7 b7
            obtain ⟨nb, hnb⟩ : ∃ nb, (bytesT A B K N f tn zs L M h2 tm ys).length = nb := ⟨_, rfl⟩
            rw [hnb] at RD7 ⊢
            clear hnb
            go_wp2_with fail
            refine hK.out _ _ ?_ (fun hH2 => ?_)
            · exact HKp.out _ B7.out
            clear hK KP hHeld
            have hHeld := hH2
            clear hH2
            try simp only [Act.put]
            try simp only [List.setIfInBounds_toArray]
            try simp only [List.set_cons_succ, List.set_cons_zero]
            refine anyK_step (i := 9) (by kernel_rfl) rfl (fun KP hK => ?_)
            go_simp
            refine (spec_PagePut PA pc y c7 lsn (HRP.out.below B7.out (Nat.le_refl _)) HMM.out RD7.out NL7.out HRR.out HKK.out rfl).mono ?_
            rintro e w9 ⟨a', c', rfl, op, b9⟩
            have B9 := hid (B7.out.trans (b9.mono B7.out.size))
            have OP := hid op
            have HLU := hid (show V.heap.size ≤ w7.heap.size ∧ w7.heap.size ≤ w9.heap.size from ⟨B7.out.size, b9.size⟩)
            have RPB1 := hid ((b9.block v0.heap.size (by have := ZW.out; have := HS73.out; omega)).trans ((HB73.out.block v0.heap.size (by have := ZW.out; omega)).trans RPB0.out))
            clear op b9
            go_wp2_with fail
            refine hK.out _ _ ?_ (fun hH2 => ?_)
            · exact HKp.out _ B9.out
            clear hK KP hHeld
            have hHeld := hH2
            clear hH2
            try simp only [Act.put]
            try simp only [List.setIfInBounds_toArray]
            try simp only [List.set_cons_succ, List.set_cons_zero]
            refine anyK_take2 (i := 10) (v := ?v32) rfl (by kernel_rfl) (by kernel_rfl) (by kernel_rfl) (by rfl) (fun _ _ _ h => h) (by rfl) hHeld ?hy32 (some 61) (by rfl) ?rest32
            case hy32 => (intro W hSw; obtain ⟨x0, ⟨x1, x2⟩, ⟨u0, u1, u2, u3, u4, u5, u6, u7, u8, u9⟩⟩ := hSw; go_simp; (try with_reducible rfl))
            try simp only [Act.put]
            try simp only [List.setIfInBounds_toArray]
            try simp only [List.set_cons_succ, List.set_cons_zero]
            refine anyK_take2 (i := 11) (v := ?v33) rfl (by kernel_rfl) (by kernel_rfl) (by kernel_rfl) (by rfl) (fun _ _ _ h => h) (by rfl) hHeld ?hy33 (some 72) (by rfl) ?rest33
            case hy33 => (intro W hSw; obtain ⟨x0, ⟨x1, x2⟩, ⟨u0, u1, u2, u3, u4, u5, u6, u7, u8, u9⟩⟩ := hSw; go_simp; (try with_reducible rfl))
            try simp only [Act.put]
            try simp only [List.setIfInBounds_toArray]
            try simp only [List.set_cons_succ, List.set_cons_zero]
            refine anyK_take2 (i := 12) (v := ?v34) rfl (by kernel_rfl) (by kernel_rfl) (by kernel_rfl) (by rfl) (fun _ _ _ h => h) (by rfl) hHeld ?hy34 (some 73) (by rfl) ?rest34
            case hy34 => (intro W hSw; obtain ⟨x0, ⟨x1, x2⟩, ⟨u0, u1, u2, u3, u4, u5, u6, u7, u8, u9⟩⟩ := hSw; go_simp; (try with_reducible rfl))
            try simp only [Act.put]
            try simp only [List.setIfInBounds_toArray]
            try simp only [List.set_cons_succ, List.set_cons_zero]
            have BC9 := B9
            have OPc := OP
            have HPB0 := hid (show V.heap.size ≤ v0.heap.size ∧ (v0.heap.size < w7.heap.size ∨ w9.heap.size ≤ v0.heap.size) by have := ZW.out; have := BD.out.size; have := HS73.out; omega)
            obtain ⟨PB, hPB⟩ : ∃ PB, v0.heap.size = PB := ⟨_, rfl⟩
            rw [hPB] at RPB1 HPB0
            have RPB := RPB1
            have HPB := HPB0
            try simp only [hPB]
            have hlt := HLT.out
            have hpb := HPB.out
            have r0 : w9.cell? ⟨PB, 0, none⟩ = some (.int .i64 0) := cell_of_row _ _ 0 _ _ _ RPB.out
            have r1 : w9.cell? ⟨PB, 1, none⟩ = some (.slice none 0 0) := cell_of_row _ _ 1 _ _ _ RPB.out
            have rf0 : w9.frozen? ⟨PB, 0, none⟩ = false := frozen_of_row _ _ _ _ _ RPB.out
            have rf1 : w9.frozen? ⟨PB, 1, none⟩ = false := frozen_of_row _ _ _ _ _ RPB.out
            have U1 := heap_setCell_same w9 PB 0 _ 87 (.int .i64 RL) RPB.out
            have U2 := hid (heap_setCell_same _ PB 1 _ 87 (.slice a' RS.length c') U1)
            have KF : ∀ b, b ≠ PB → ((w9.setCell ⟨PB, 0, none⟩ (.int .i64 RL)).setCell ⟨PB, 1, none⟩ (.slice a' RS.length c')).heap[b]? = w9.heap[b]? := fun b hb => (heap_set_ne _ (PB) 1 b (.slice a' RS.length c') hb).trans (heap_set_ne w9 (PB) 0 b (.int .i64 RL) hb)
            have BF := hid ((BC9.out.setCell (p := ⟨PB, 0, none⟩) (by show V.heap.size ≤ PB; omega) (.int .i64 RL)).setCell (p := ⟨PB, 1, none⟩) (by show V.heap.size ≤ PB; omega) (.slice a' RS.length c'))
            have HE := hid (HKp.out _ BF.out)
            have OF := hid (OPc.out.agree (w' := ((w9.setCell ⟨PB, 0, none⟩ (.int .i64 RL)).setCell ⟨PB, 1, none⟩ (.slice a' RS.length c'))) (fun k h1 h2 => KF k (by omega)))
            have HSF := hid (show w9.heap.size ≤ ((w9.setCell ⟨PB, 0, none⟩ (.int .i64 RL)).setCell ⟨PB, 1, none⟩ (.slice a' RS.length c')).heap.size ∧ w9.heap.size = ((w9.setCell ⟨PB, 0, none⟩ (.int .i64 RL)).setCell ⟨PB, 1, none⟩ (.slice a' RS.length c')).heap.size by rw [set_size, set_size]; exact ⟨Nat.le_refl _, rfl⟩)
            clear U1 KF hlt hpb
            refine anyK_step (i := 14) (by kernel_rfl) rfl (fun KP hK => ?_)
            go_simp
            refine hK.out _ _ ?_ (fun hH2 => ?_)
            · exact HE.out
            clear hK KP hHeld
            have hHeld := hH2
            clear hH2
            try simp only [Act.put]
            try simp only [List.setIfInBounds_toArray]
            try simp only [List.set_cons_succ, List.set_cons_zero]
            refine anyK_step (i := 15) (by kernel_rfl) rfl (fun KP hK => ?_)
            go_simp
            refine hK.out _ _ ?_ (fun hH2 => ?_)
            · exact HE.out
            clear hK KP hHeld
            have hHeld := hH2
            clear hH2
            try simp only [Act.put]
            try simp only [List.setIfInBounds_toArray]
            try simp only [List.set_cons_succ, List.set_cons_zero]
            refine anyK_done (by kernel_rfl) ?_ _
            clear hHeld r0 r1 rf0 rf1
            have FG := hid (OGV.out.below BF.out (Nat.le_refl _))
            have FBO := hid (show Boxed ((w9.setCell ⟨PB, 0, none⟩ (.int .i64 RL)).setCell ⟨PB, 1, none⟩ (.slice a' RS.length c')) BO 26 (.slice (some ⟨g, 0, none⟩) ((q + 1)) cg) from (BF.out.block _ BOX.out.lt).trans BOX.out)
            have FS3 := hid (show Boxed ((w9.setCell ⟨PB, 0, none⟩ (.int .i64 RL)).setCell ⟨PB, 1, none⟩ (.slice a' RS.length c')) (w.heap.size + 1 + 1) 26 (.slice none 0 0) from (BF.out.block _ S3.out.lt).trans S3.out)
            have FB := hid (HB.out.trans (BF.out.mono HB.out.size))
            generalize ((w9.setCell ⟨PB, 0, none⟩ (.int .i64 RL)).setCell ⟨PB, 1, none⟩ (.slice a' RS.length c')) = FF at *
            have hlo := HLO.out
            have hgb := HGB.out
            have hlt := HLT.out
            have hlu := HLU.out
            have hpb := HPB.out
            have hsf := HSF.out
            cases ok with
            | false =>
             have HNO := hid (show putHOk ps (q : Int) y (okT A B K N f tn L M h2 tm) (bytesT A B K N f tn zs L M h2 tm ys) lsn = false from HPO.out)
             go_wp2_with (refine wpList_store_row rfl 26 (.tmp 10) (.tmp 76) rfl (w.heap.size + 1 + 1) #[.slice none 0 0] rfl rfl 26 _ FS3.out ?xag1 ?xag2 ?xag3 ?_)
             case xag1 => simpa using size_hp
             try (case xag2 => rfl)
             case xag3 => simp [Value.oneCell']
             refine bodyPost_ret (results_cell_tmp Tryz.results10 _ _ (w.heap.size + 1 + 1) 26 #[.slice none 0 0] (0, 0) _ rfl (setRow_heap _ _ _ _ _ _ FS3.out) Tryz.underlying26 rfl size_hp) rfl ?_
             rw [HNO.out, putH_no HNO.out]
             exact AnsH.zero rfl (below_setRow FB.out (by omega) _)
            | true =>
             have HPH := hid (show putH ps (q : Int) y (okT A B K N f tn L M h2 tm) (bytesT A B K N f tn zs L M h2 tm ys) lsn = withH ps q (RL, RS) by have := HPH0.out; simpa using this)
             have t0 : FF.cell? ⟨PB, 0, none⟩ = some (.int .i64 RL) := cell_of_row _ _ 0 _ _ _ U2.out
             have t1 : FF.cell? ⟨PB, 1, none⟩ = some (.slice a' RS.length c') := cell_of_row _ _ 1 _ _ _ U2.out
             have t2 := FBO.out.cell
             obtain ⟨⟨vv1, hcy⟩, ⟨vv2, hcz⟩, hfr, hfz⟩ := FG.out.cells2 HNL.out (q := q) (by omega)
             have OGF := hid (OwnG.swap (A := RL) (lo' := LO) (hi' := FF.heap.size) FG.out HNL.out (i := q) (by omega) OF.out (.inr (by omega)) (Nat.le_refl _) (by omega) (by omega) (by omega))
             have hd : ((FF.setCell ⟨g, q * 2, none⟩ (.int .i64 RL)).setCell ⟨g, q * 2 + 1, none⟩ (.slice a' RS.length c')).cell? ⟨BO, 0, none⟩ = some (.slice (some ⟨g, 0, none⟩) ((q + 1)) cg) := (World.cell?_of_block ((heap_set_ne _ g (q * 2 + 1) BO (.slice a' RS.length c') HBG.out).trans (heap_set_ne FF g (q * 2) BO (.int .i64 RL) HBG.out))).trans t2
             have VF := hid ((heap_set_ne _ g (q * 2 + 1) (w.heap.size + 1 + 1) (.slice a' RS.length c') (by omega)).trans ((heap_set_ne FF g (q * 2) (w.heap.size + 1 + 1) (.int .i64 RL) (by omega)).trans FS3.out))
             have BFF := hid ((FB.out.setCell (p := ⟨g, q * 2, none⟩) (by show w.heap.size ≤ g; omega) (.int .i64 RL)).setCell (p := ⟨g, q * 2 + 1, none⟩) (by show w.heap.size ≤ g; omega) (.slice a' RS.length c'))
             clear FG OF FBO FS3
             have hqN3 : (q : Int) < (q : Int) + 1 := by omega
             go_wp2_with (refine wpList_store_row rfl 26 (.tmp 10) (.tmp 82) rfl (w.heap.size + 1 + 1) #[.slice (some ⟨g, 0, none⟩) ((q + 1)) cg] rfl rfl 26 _ VF.out ?xbg1 ?xbg2 ?xbg3 ?_)
             case xbg1 => simpa using size_hp
             try (case xbg2 => rfl)
             case xbg3 => simp [Value.oneCell']
             refine bodyPost_ret (results_cell_tmp Tryz.results10 _ _ (w.heap.size + 1 + 1) 26 #[.slice (some ⟨g, 0, none⟩) ((q + 1)) cg] (0, 0) _ rfl (setRow_heap _ _ _ _ _ _ VF.out) Tryz.underlying26 rfl size_hp) rfl ?_
             have hlen : (withH ps q (RL, RS)).length = (q + 1) := by rw [withH, List.length_set, HNL.out]
             rw [HPO.out, HPH.out]
             exact ⟨some ⟨g, 0, none⟩, cg, by rw [hlen]; rfl, by rw [hlen]; exact (OGF.out.agree (fun k h1 _ => setRow_other _ _ _ _ (by omega))).mono (by omega) (by simp), below_setRow BFF.out (by omega) _⟩
    · rw [decide_eq_false hx]
      clear c1
      have HNO := hid (putHOk_no (ps := ps) (x := x) (y := y) (okt := okT A B K N f tn L M h2 tm) (bz := bytesT A B K N f tn zs L M h2 tm ys) (lsn := lsn) (.inr (.inr (.inr (fun z => hx (by rw [hl] at z; omega))))))
      go_wp2_with (refine wpList_store_row rfl 26 (.tmp 10) (.tmp 47) rfl (w.heap.size + 1 + 1) #[.slice none 0 0] rfl rfl 26 _ S3.out ?z1 ?z2 ?z3 ?_)
      case z1 => simpa using size_hp
      try (case z2 => rfl)
      case z3 => simp [Value.oneCell']
      refine bodyPost_ret (results_cell_tmp Tryz.results10 _ _ (w.heap.size + 1 + 1) 26 #[.slice none 0 0] (0, 0) _ rfl (setRow_heap _ _ _ _ _ _ S3.out) Tryz.underlying26 rfl size_hp) rfl ?_
      rw [HNO.out, putH_no HNO.out]
      exact AnsH.zero rfl (below_setRow HB.out (by omega) _)
end Go.Proofs.YtkfhfjghfadofaaGreat
