/- The contracts of the program's withTuple and HeapPut. Conditions: what the types say. -/
import Derived.Test.YtkfhfjghfadofaaGreatIp10
import Derived.Test.YtkfhfjghfadofaaGreatMgc
namespace Go.Proofs.YtkfhfjghfadofaaGreat
open Go.RowKit
set_option maxRecDepth 100000
set_option maxHeartbeats 12800000 in
theorem impl_withTuple {ad : Option Addr} {n : Nat} (cap : Nat) {ps : List Pg} {q : Nat} (y lsn : Int) (A B K N : Int) {f : Nat} {ta : Option Addr} {tn : Nat} (tc : Nat) (L M : Int) {h2 : Nat} {tb : Option Addr} {tm : Nat} (td : Nat) {zs ys : List Int} {w : World} (h : ReadsG w ad ps) (hl : ps.length = n) (hok : okH ps = true) (hq : q ≤ n) (rk : Reads w ta tn zs) (rv : Reads w tb tm ys) (hnil : ta = none → tc = 0) (hnil' : tb = none → td = 0) (htn : tn ≤ 2097152) (htm : tm ≤ 2097152) (hN : -9223372036854775808 ≤ N ∧ N ≤ 9223372036854775807) (hM : -9223372036854775808 ≤ M ∧ M ≤ 9223372036854775807) (hf : f < 18446744073709551616) (hh : h2 < 18446744073709551616) {RL : Int} {RS : List (List Int)} {ok : Bool} (hR : putP (ps.getD q pg0).1 (ps.getD q pg0).2 y (bytesT A B K N f tn zs L M h2 tm ys) lsn = (RL, RS)) (hk : putOk (ps.getD q pg0).1 (ps.getD q pg0).2 y (bytesT A B K N f tn zs L M h2 tm ys) lsn = ok) :
 Calls Tryz.prog 53 #[.agg #[.slice ad n cap], .int .i64 (q : Int), .int .i64 y, .agg #[.int .i64 A, .int .i64 B, .int .i64 K, .int .i64 N, .float .f64 f, .slice ta tn tc, .int .i64 L, .int .i64 M, .float .f64 h2, .slice tb tm td], .int .i64 lsn] w fun e w' => AnsH (if ok = true then withH ps q (RL, RS) else []) ok w e w' := by
 have hst1 := fun w a m => run_store Tryz.prog w a (.float .f64 f) m rfl
 have hst2 := fun w a m => run_store Tryz.prog w a (.float .f64 h2) m rfl
 have z1 := alloc_size w (.cells #[.slice ad n cap] 26)
 have z2 := alloc_size (w.alloc (.cells #[.slice ad n cap] 26)) (.cells #[.int .i64 y] 3)
 have z3 := alloc_size ((w.alloc (.cells #[.slice ad n cap] 26)).alloc (.cells #[.int .i64 y] 3)) (.cells #[.int .i64 A, .int .i64 B, .int .i64 K, .int .i64 N, .float .f64 f, .slice ta tn tc, .int .i64 L, .int .i64 M, .float .f64 h2, .slice tb tm td] 31)
 have z4 := alloc_size (((w.alloc (.cells #[.slice ad n cap] 26)).alloc (.cells #[.int .i64 y] 3)).alloc (.cells #[.int .i64 A, .int .i64 B, .int .i64 K, .int .i64 N, .float .f64 f, .slice ta tn tc, .int .i64 L, .int .i64 M, .float .f64 h2, .slice tb tm td] 31)) (.cells #[.int .i64 lsn] 3)
 have z5 := alloc_size ((((w.alloc (.cells #[.slice ad n cap] 26)).alloc (.cells #[.int .i64 y] 3)).alloc (.cells #[.int .i64 A, .int .i64 B, .int .i64 K, .int .i64 N, .float .f64 f, .slice ta tn tc, .int .i64 L, .int .i64 M, .float .f64 h2, .slice tb tm td] 31)).alloc (.cells #[.int .i64 lsn] 3)) (.cells #[.slice none 0 0] 26)
 have b2 := Boxed.new (w.alloc (.cells #[.slice ad n cap] 26)) 3 (.int .i64 y)
 have b3 := BoxT.new ((w.alloc (.cells #[.slice ad n cap] 26)).alloc (.cells #[.int .i64 y] 3)) A B K N f ta tn tc L M h2 tb tm td 31
 have b4 := Boxed.new (((w.alloc (.cells #[.slice ad n cap] 26)).alloc (.cells #[.int .i64 y] 3)).alloc (.cells #[.int .i64 A, .int .i64 B, .int .i64 K, .int .i64 N, .float .f64 f, .slice ta tn tc, .int .i64 L, .int .i64 M, .float .f64 h2, .slice tb tm td] 31)) 3 (.int .i64 lsn)
 have b5 := Boxed.new ((((w.alloc (.cells #[.slice ad n cap] 26)).alloc (.cells #[.int .i64 y] 3)).alloc (.cells #[.int .i64 A, .int .i64 B, .int .i64 K, .int .i64 N, .float .f64 f, .slice ta tn tc, .int .i64 L, .int .i64 M, .float .f64 h2, .slice tb tm td] 31)).alloc (.cells #[.int .i64 lsn] 3)) 26 (.slice none 0 0)
 have b1 := Boxed.new w 26 (.slice ad n cap)
 rw [z1] at b2 z2
 rw [z2] at b3 z3
 rw [z3] at b4 z4
 rw [z4] at b5 z5
 have hB : Below w.heap.size w (((((w.alloc (.cells #[.slice ad n cap] 26)).alloc (.cells #[.int .i64 y] 3)).alloc (.cells #[.int .i64 A, .int .i64 B, .int .i64 K, .int .i64 N, .float .f64 f, .slice ta tn tc, .int .i64 L, .int .i64 M, .float .f64 h2, .slice tb tm td] 31)).alloc (.cells #[.int .i64 lsn] 3)).alloc (.cells #[.slice none 0 0] 26)) := (((((Below.refl _ w).alloc (Nat.le_refl _) _).alloc (by omega) _).alloc (by omega) _).alloc (by omega) _).alloc (by omega) _
 have HB := hid hB
 have HR := hid (h.below hB (Nat.le_refl _))
 have X1 := hid ((((b1.alloc (.cells #[.int .i64 y] 3)).alloc (.cells #[.int .i64 A, .int .i64 B, .int .i64 K, .int .i64 N, .float .f64 f, .slice ta tn tc, .int .i64 L, .int .i64 M, .float .f64 h2, .slice tb tm td] 31)).alloc (.cells #[.int .i64 lsn] 3)).alloc (.cells #[.slice none 0 0] 26))
 have X2 := hid (((b2.alloc (.cells #[.int .i64 A, .int .i64 B, .int .i64 K, .int .i64 N, .float .f64 f, .slice ta tn tc, .int .i64 L, .int .i64 M, .float .f64 h2, .slice tb tm td] 31)).alloc (.cells #[.int .i64 lsn] 3)).alloc (.cells #[.slice none 0 0] 26))
 have X3 := hid ((b3.below (Below.alloc1 _ (.cells #[.int .i64 lsn] 3)) (Nat.le_refl _)).below (Below.alloc1 _ (.cells #[.slice none 0 0] 26)) (Nat.le_refl _))
 have X4 := hid (b4.alloc (.cells #[.slice none 0 0] 26))
 have X5 := hid b5
 have RK := hid (rk.below hB (Nat.le_refl _))
 have RV := hid (rv.below hB (Nat.le_refl _))
 have HZ := hid z5
 have h16 : (ps.getD q pg0).2.length ≤ 16 := by
  by_cases e : q < ps.length
  · exact (okP_of (okPg_of ((okH_of hok).2 q e)).1).n
  · rw [List.getD_eq_getElem?_getD, List.getElem?_eq_none (by omega)]; simp [pg0]
 have HC := hid (changed_tuple (w.heap.size + 1) (w.heap.size + 1 + 1) (w.heap.size + 1 + 1 + 1) cap (q := q) (RL := RL) (RS := RS) (m := RS.length) (ok := ok) HR.out hl hok hq (fun a mm cc W bW hr hmm =>
  tuple_change (w.heap.size + 1) (w.heap.size + 1 + 1) (w.heap.size + 1 + 1 + 1) _ cc y lsn A B K N tc L M td hr hmm (by omega) ((bW.cell (p := ⟨w.heap.size + 1, 0, none⟩) X2.out.lt).trans X2.out.cell) (X3.out.below bW (Nat.le_refl _)) ((bW.cell (p := ⟨w.heap.size + 1 + 1 + 1, 0, none⟩) X4.out.lt).trans X4.out.cell) (RK.out.below bW (Nat.le_refl _)) (RV.out.below bW (Nat.le_refl _)) hnil hnil' htn htm hN hM hf hh hR hk rfl))
 have c1 := X1.out.cell
 clear h hok rk rv hR hk b1 b2 b3 b4 b5 z1 z2 z3 z4 z5 hB h16 RK RV
 go_enter Tryz.func53, Tryz.ntmps53
 go_wp2_with fail
 generalize ((((w.alloc (.cells #[.slice ad n cap] 26)).alloc (.cells #[.int .i64 y] 3)).alloc (.cells #[.int .i64 A, .int .i64 B, .int .i64 K, .int .i64 N, .float .f64 f, .slice ta tn tc, .int .i64 L, .int .i64 M, .float .f64 h2, .slice tb tm td] 31)).alloc (.cells #[.int .i64 lsn] 3)).alloc (.cells #[.slice none 0 0] 26) = W0 at *
 refine HC.out.mono ?_
 rintro e w7 ⟨v7, c7, rfl, og, b7⟩
 have U4 := hid ((b7.block (w.heap.size + 1 + 1 + 1 + 1) X5.out.lt).trans X5.out)
 have HB7 := hid (HB.out.trans (b7.mono HB.out.size))
 have OG := hid og
 have hz5 := HZ.out
 clear b7 og HC c1
 obtain ⟨QS, hQS⟩ : ∃ QS, (if ok = true then withH ps q (RL, RS) else []) = QS := ⟨_, rfl⟩
 rw [hQS] at OG ⊢
 obtain ⟨NN, hNN⟩ : ∃ N, QS.length = N := ⟨_, rfl⟩
 rw [hNN] at OG ⊢
 have HNN := hid hNN
 have HQS := hid hQS
 clear hNN hQS
 cases ok with
 | true =>
  have HQ2 := hid (show withH ps q (RL, RS) = QS by have := HQS.out; simpa using this)
  go_wp2_with (refine wpList_store_row rfl 26 (.tmp 10) (.tmp 16) rfl (w.heap.size + 1 + 1 + 1 + 1) #[.slice v7 NN c7] rfl rfl 26 _ U4.out ?u1 ?u2 ?u3 ?_)
  case u1 => simpa using size_hp
  try (case u2 => rfl)
  case u3 => simp [Value.oneCell']
  refine bodyPost_ret (results_cell_tmp Tryz.results53 _ _ (w.heap.size + 1 + 1 + 1 + 1) 26 #[.slice v7 NN c7] (0, 0) _ rfl (setRow_heap _ _ _ _ _ _ U4.out) Tryz.underlying26 rfl size_hp) rfl ?_
  rw [HQ2.out]
  exact ⟨v7, c7, by rw [HNN.out]; rfl, by rw [HNN.out]; exact (OG.out.agree (fun k h1 _ => setRow_other _ _ _ _ (by omega))).mono (by omega) (by simp), below_setRow HB7.out (by omega) _⟩
 | false =>
  have HQ2 := hid (show ([] : List Pg) = QS by have := HQS.out; simpa using this)
  go_wp2_with (refine wpList_store_row rfl 26 (.tmp 10) (.tmp 16) rfl (w.heap.size + 1 + 1 + 1 + 1) #[.slice v7 NN c7] rfl rfl 26 _ U4.out ?u1 ?u2 ?u3 ?_)
  case u1 => simpa using size_hp
  try (case u2 => rfl)
  case u3 => simp [Value.oneCell']
  refine bodyPost_ret (results_cell_tmp Tryz.results53 _ _ (w.heap.size + 1 + 1 + 1 + 1) 26 #[.slice v7 NN c7] (0, 0) _ rfl (setRow_heap _ _ _ _ _ _ U4.out) Tryz.underlying26 rfl size_hp) rfl ?_
  rw [HQ2.out]
  exact ⟨v7, c7, by rw [HNN.out]; rfl, by rw [HNN.out]; exact (OG.out.agree (fun k h1 _ => setRow_other _ _ _ _ (by omega))).mono (by omega) (by simp), below_setRow HB7.out (by omega) _⟩
def putHOk (ps : List Pg) (x y : Int) (okt : Bool) (bz : List Int) (lsn : Int) : Bool := okH ps && okt && !(atH ps x y).ok && decide (0 ≤ x ∧ x ≤ (ps.length : Int) ∧ x ≤ 15) && putOk (ps.getD x.toNat pg0).1 (ps.getD x.toNat pg0).2 y bz lsn
def putH (ps : List Pg) (x y : Int) (okt : Bool) (bz : List Int) (lsn : Int) : List Pg := if putHOk ps x y okt bz lsn = true then withH ps x.toNat (putP (ps.getD x.toNat pg0).1 (ps.getD x.toNat pg0).2 y bz lsn) else []
theorem putH_no {ps : List Pg} {x y : Int} {okt : Bool} {bz : List Int} {lsn : Int} (h : putHOk ps x y okt bz lsn = false) : putH ps x y okt bz lsn = [] := by unfold putH; rw [h]; rfl
theorem putHOk_no {ps : List Pg} {x y : Int} {okt : Bool} {bz : List Int} {lsn : Int} (h : okH ps = false ∨ okt = false ∨ (atH ps x y).ok = true ∨ ¬ (0 ≤ x ∧ x ≤ (ps.length : Int) ∧ x ≤ 15)) : putHOk ps x y okt bz lsn = false := by
 unfold putHOk
 rcases h with h | h | h | h
 · rw [h]; rfl
 · rw [h]; simp
 · rw [h]; simp
 · rw [decide_eq_false h]; simp
theorem putHOk_yes {ps : List Pg} {x y : Int} {okt : Bool} {bz : List Int} {lsn : Int} (h1 : okH ps = true) (h2 : okt = true) (h3 : (atH ps x y).ok = false) (h4 : 0 ≤ x ∧ x ≤ (ps.length : Int) ∧ x ≤ 15) : putHOk ps x y okt bz lsn = putOk (ps.getD x.toNat pg0).1 (ps.getD x.toNat pg0).2 y bz lsn := by
 unfold putHOk
 rw [h1, h2, h3, decide_eq_true h4]
 simp
set_option maxHeartbeats 12800000 in
theorem impl_HeapPut {ad : Option Addr} {n : Nat} (cap : Nat) {ps : List Pg} (x y lsn : Int) (A B K N : Int) {f : Nat} {ta : Option Addr} {tn : Nat} (tc : Nat) (L M : Int) {h2 : Nat} {tb : Option Addr} {tm : Nat} (td : Nat) {zs ys : List Int} {w : World} (h : ReadsG w ad ps) (hl : ps.length = n) (rk : Reads w ta tn zs) (rv : Reads w tb tm ys) (hnil : ta = none → tc = 0) (hnil' : tb = none → td = 0) (htn : tn ≤ 2097152) (htm : tm ≤ 2097152) (hN : -9223372036854775808 ≤ N ∧ N ≤ 9223372036854775807) (hM : -9223372036854775808 ≤ M ∧ M ≤ 9223372036854775807) (hf : f < 18446744073709551616) (hh : h2 < 18446744073709551616) :
 Calls Tryz.prog 9 #[.agg #[.slice ad n cap], .int .i64 x, .int .i64 y, .agg #[.int .i64 A, .int .i64 B, .int .i64 K, .int .i64 N, .float .f64 f, .slice ta tn tc, .int .i64 L, .int .i64 M, .float .f64 h2, .slice tb tm td], .int .i64 lsn] w fun e w' => AnsH (putH ps x y (okT A B K N f tn L M h2 tm) (bytesT A B K N f tn zs L M h2 tm ys) lsn) (putHOk ps x y (okT A B K N f tn L M h2 tm) (bytesT A B K N f tn zs L M h2 tm ys) lsn) w e w' := by
 have hst1 := fun w a m => run_store Tryz.prog w a (.float .f64 f) m rfl
 have hst2 := fun w a m => run_store Tryz.prog w a (.float .f64 h2) m rfl
 have z1 := alloc_size w (.cells #[.slice ad n cap] 26)
 have z2 := alloc_size (w.alloc (.cells #[.slice ad n cap] 26)) (.cells #[.int .i64 A, .int .i64 B, .int .i64 K, .int .i64 N, .float .f64 f, .slice ta tn tc, .int .i64 L, .int .i64 M, .float .f64 h2, .slice tb tm td] 31)
 have z3 := alloc_size ((w.alloc (.cells #[.slice ad n cap] 26)).alloc (.cells #[.int .i64 A, .int .i64 B, .int .i64 K, .int .i64 N, .float .f64 f, .slice ta tn tc, .int .i64 L, .int .i64 M, .float .f64 h2, .slice tb tm td] 31)) (.cells #[.slice none 0 0] 26)
 have b1 := Boxed.new w 26 (.slice ad n cap)
 have b2 := BoxT.new (w.alloc (.cells #[.slice ad n cap] 26)) A B K N f ta tn tc L M h2 tb tm td 31
 have b3 := Boxed.new ((w.alloc (.cells #[.slice ad n cap] 26)).alloc (.cells #[.int .i64 A, .int .i64 B, .int .i64 K, .int .i64 N, .float .f64 f, .slice ta tn tc, .int .i64 L, .int .i64 M, .float .f64 h2, .slice tb tm td] 31)) 26 (.slice none 0 0)
 rw [z1] at b2 z2
 rw [z2] at b3 z3
 have hB : Below w.heap.size w (((w.alloc (.cells #[.slice ad n cap] 26)).alloc (.cells #[.int .i64 A, .int .i64 B, .int .i64 K, .int .i64 N, .float .f64 f, .slice ta tn tc, .int .i64 L, .int .i64 M, .float .f64 h2, .slice tb tm td] 31)).alloc (.cells #[.slice none 0 0] 26)) := (((Below.refl _ w).alloc (Nat.le_refl _) _).alloc (by omega) _).alloc (by omega) _
 have HB := hid hB
 have HR := hid (h.below hB (Nat.le_refl _))
 have S1 := hid ((b1.alloc (.cells #[.int .i64 A, .int .i64 B, .int .i64 K, .int .i64 N, .float .f64 f, .slice ta tn tc, .int .i64 L, .int .i64 M, .float .f64 h2, .slice tb tm td] 31)).alloc (.cells #[.slice none 0 0] 26))
 have S2 := hid (b2.below (Below.alloc1 _ (.cells #[.slice none 0 0] 26)) (Nat.le_refl _))
 have S3 := hid b3
 have RK := hid (rk.below hB (Nat.le_refl _))
 have RV := hid (rv.below hB (Nat.le_refl _))
 have HZ := hid (show w.heap.size + 3 ≤ (((w.alloc (.cells #[.slice ad n cap] 26)).alloc (.cells #[.int .i64 A, .int .i64 B, .int .i64 K, .int .i64 N, .float .f64 f, .slice ta tn tc, .int .i64 L, .int .i64 M, .float .f64 h2, .slice tb tm td] 31)).alloc (.cells #[.slice none 0 0] 26)).heap.size by omega)
 have HNI := hid hnil
 have HNJ := hid hnil'
 have c1 := S1.out.cell
 clear h rk rv b1 b2 b3 z1 z2 z3 hB hnil hnil'
 go_enter Tryz.func9, Tryz.ntmps9
 go_wp2_with fail
 generalize ((w.alloc (.cells #[.slice ad n cap] 26)).alloc (.cells #[.int .i64 A, .int .i64 B, .int .i64 K, .int .i64 N, .float .f64 f, .slice ta tn tc, .int .i64 L, .int .i64 M, .float .f64 h2, .slice tb tm td] 31)).alloc (.cells #[.slice none 0 0] 26) = W0 at *
 refine (impl_HeapOk cap HR.out hl).mono ?_
 rintro e W ⟨rfl, b⟩
 replace HR := hid (HR.out.below b (Nat.le_refl _))
 replace HB := hid (HB.out.trans (b.mono HB.out.size))
 replace S1 := hid (show Boxed W w.heap.size 26 (.slice ad n cap) from (b.block _ S1.out.lt).trans S1.out)
 replace S2 := hid (S2.out.below b (Nat.le_refl _))
 replace S3 := hid (show Boxed W (w.heap.size + 1 + 1) 26 (.slice none 0 0) from (b.block _ S3.out.lt).trans S3.out)
 replace RK := hid (RK.out.below b (Nat.le_refl _))
 replace RV := hid (RV.out.below b (Nat.le_refl _))
 replace HZ := hid (show w.heap.size + 3 ≤ W.heap.size by have := HZ.out; have := b.size; omega)
 clear b c1
 cases hok : okH ps with
 | false =>
  have HNO := hid (putHOk_no (ps := ps) (x := x) (y := y) (okt := okT A B K N f tn L M h2 tm) (bz := bytesT A B K N f tn zs L M h2 tm ys) (lsn := lsn) (.inl hok))
  go_wp2_with (refine wpList_store_row rfl 26 (.tmp 10) (.tmp 22) rfl (w.heap.size + 1 + 1) #[.slice none 0 0] rfl rfl 26 _ S3.out ?s1 ?s2 ?s3 ?_)
  case s1 => simpa using size_hp
  try (case s2 => rfl)
  case s3 => simp [Value.oneCell']
  refine bodyPost_ret (results_cell_tmp Tryz.results9 _ _ (w.heap.size + 1 + 1) 26 #[.slice none 0 0] (0, 0) _ rfl (setRow_heap _ _ _ _ _ _ S3.out) Tryz.underlying26 rfl size_hp) rfl ?_
  rw [HNO.out, putH_no HNO.out]
  exact AnsH.zero rfl (below_setRow HB.out (by omega) _)
 | true =>
  have HOK := hid hok
  clear hok
  obtain ⟨u0, u1, u2, u3, u4, u5, u6, u7, u8, u9⟩ := S2.out
  go_wp2_with fail
  clear u0 u1 u2 u3 u4 u5 u6 u7 u8 u9
  refine (impl_TupleOk A B K N f ta tn tc L M h2 tb tm td hf hh htn htm W).mono ?_
  rintro e W2 ⟨rfl, b⟩
  replace HR := hid (HR.out.below b (Nat.le_refl _))
  replace HB := hid (HB.out.trans (b.mono HB.out.size))
  replace S1 := hid (show Boxed W2 w.heap.size 26 (.slice ad n cap) from (b.block _ S1.out.lt).trans S1.out)
  replace S2 := hid (S2.out.below b (Nat.le_refl _))
  replace S3 := hid (show Boxed W2 (w.heap.size + 1 + 1) 26 (.slice none 0 0) from (b.block _ S3.out.lt).trans S3.out)
  replace RK := hid (RK.out.below b (Nat.le_refl _))
  replace RV := hid (RV.out.below b (Nat.le_refl _))
  replace HZ := hid (show w.heap.size + 3 ≤ W2.heap.size by have := HZ.out; have := b.size; omega)
  clear b
  cases hot : okT A B K N f tn L M h2 tm with
  | false =>
   have HNO := hid (putHOk_no (ps := ps) (x := x) (y := y) (okt := okT A B K N f tn L M h2 tm) (bz := bytesT A B K N f tn zs L M h2 tm ys) (lsn := lsn) (.inr (.inl hot)))
   clear hot
   go_wp2_with (refine wpList_store_row rfl 26 (.tmp 10) (.tmp 22) rfl (w.heap.size + 1 + 1) #[.slice none 0 0] rfl rfl 26 _ S3.out ?t1 ?t2 ?t3 ?_)
   case t1 => simpa using size_hp
   try (case t2 => rfl)
   case t3 => simp [Value.oneCell']
   refine bodyPost_ret (results_cell_tmp Tryz.results9 _ _ (w.heap.size + 1 + 1) 26 #[.slice none 0 0] (0, 0) _ rfl (setRow_heap _ _ _ _ _ _ S3.out) Tryz.underlying26 rfl size_hp) rfl ?_
   rw [HNO.out, putH_no HNO.out]
   exact AnsH.zero rfl (below_setRow HB.out (by omega) _)
  | true =>
   have HOT := hid hot
   clear hot
   have c1 := S1.out.cell
   go_wp2_with fail
   refine (impl_tupleAt cap HR.out hl HOK.out x y).mono ?_
   rintro e w5 ⟨⟨f1, v1, f2, v2, rfl, _, _, _, _, o1, o2, _, b5⟩⟩
   obtain ⟨a1, c3, rfl⟩ := own_sl o1
   obtain ⟨a2, c4, rfl⟩ := own_sl o2
   have hst3 := fun w a m => run_store Tryz.prog w a (.float .f64 f1) m rfl
   have hst4 := fun w a m => run_store Tryz.prog w a (.float .f64 f2) m rfl
   have HAT := hid (show (atH ps x y).ok = (atH ps x y).ok from rfl)
   obtain ⟨tk, htk⟩ : ∃ tk, (atH ps x y).ok = tk := ⟨_, rfl⟩
   rw [htk]
   have HTK := hid htk
   clear o1 o2 c1 htk HAT
   generalize (atH ps x y).A = q1 at *
   generalize (atH ps x y).B = q2 at *
   generalize (atH ps x y).K = q3 at *
   generalize (atH ps x y).N = q4 at *
   generalize (atH ps x y).L = q5 at *
   generalize (atH ps x y).M = q6 at *
   generalize (atH ps x y).Z.length = q7 at *
   generalize (atH ps x y).Y.length = q8 at *
   have bX := Below.alloc1 w5 (.cells #[.int .i64 q1, .int .i64 q2, .int .i64 q3, .int .i64 q4, .float .f64 f1, .slice a1 q7 c3, .int .i64 q5, .int .i64 q6, .float .f64 f2, .slice a2 q8 c4] 31)
   have b := b5.trans (bX.mono b5.size)
   replace HR := hid (HR.out.below b (Nat.le_refl _))
   replace HB := hid (HB.out.trans (b.mono HB.out.size))
   replace S1 := hid (show Boxed (w5.alloc (.cells #[.int .i64 q1, .int .i64 q2, .int .i64 q3, .int .i64 q4, .float .f64 f1, .slice a1 q7 c3, .int .i64 q5, .int .i64 q6, .float .f64 f2, .slice a2 q8 c4] 31)) w.heap.size 26 (.slice ad n cap) from (b.block _ S1.out.lt).trans S1.out)
   replace S2 := hid (S2.out.below b (Nat.le_refl _))
   replace S3 := hid (show Boxed (w5.alloc (.cells #[.int .i64 q1, .int .i64 q2, .int .i64 q3, .int .i64 q4, .float .f64 f1, .slice a1 q7 c3, .int .i64 q5, .int .i64 q6, .float .f64 f2, .slice a2 q8 c4] 31)) (w.heap.size + 1 + 1) 26 (.slice none 0 0) from (b.block _ S3.out.lt).trans S3.out)
   replace RK := hid (RK.out.below b (Nat.le_refl _))
   replace RV := hid (RV.out.below b (Nat.le_refl _))
   replace HZ := hid (show w.heap.size + 3 ≤ (w5.alloc (.cells #[.int .i64 q1, .int .i64 q2, .int .i64 q3, .int .i64 q4, .float .f64 f1, .slice a1 q7 c3, .int .i64 q5, .int .i64 q6, .float .f64 f2, .slice a2 q8 c4] 31)).heap.size by have := HZ.out; have := b.size; omega)
   clear b bX b5
   cases tk with
   | true =>
    have HNO := hid (putHOk_no (ps := ps) (x := x) (y := y) (okt := okT A B K N f tn L M h2 tm) (bz := bytesT A B K N f tn zs L M h2 tm ys) (lsn := lsn) (.inr (.inr (.inl HTK.out))))
    go_wp2_with (refine wpList_store_row rfl 26 (.tmp 10) (.tmp 40) rfl (w.heap.size + 1 + 1) #[.slice none 0 0] rfl rfl 26 _ S3.out ?u1 ?u2 ?u3 ?_)
    case u1 => simpa using size_hp
    try (case u2 => rfl)
    case u3 => simp [Value.oneCell']
    refine bodyPost_ret (results_cell_tmp Tryz.results9 _ _ (w.heap.size + 1 + 1) 26 #[.slice none 0 0] (0, 0) _ rfl (setRow_heap _ _ _ _ _ _ S3.out) Tryz.underlying26 rfl size_hp) rfl ?_
    rw [HNO.out, putH_no HNO.out]
    exact AnsH.zero rfl (below_setRow HB.out (by omega) _)
   | false =>
    have c1 := S1.out.cell
    have hn16 : n ≤ 16 := by have := (okH_of HOK.out).1; omega
    by_cases hn15 : (15 : Int) < (n : Int)
    · go_wp2_with fail
      refine (impl_inP _ _ _ _).mono ?_
      rintro e wz ⟨rfl, e1⟩
      subst wz
      by_cases hx : 0 ≤ x ∧ x ≤ 15
      · rw [decide_eq_true hx]
        obtain ⟨q, rfl⟩ : ∃ q : Nat, x = q := ⟨x.toNat, by omega⟩
        have hqn : q ≤ n := by omega
        obtain ⟨RL, RS, hRR⟩ : ∃ RL RS, putP (ps.getD q pg0).1 (ps.getD q pg0).2 y (bytesT A B K N f tn zs L M h2 tm ys) lsn = (RL, RS) := ⟨_, _, rfl⟩
        obtain ⟨ok, hkk⟩ : ∃ ok, putOk (ps.getD q pg0).1 (ps.getD q pg0).2 y (bytesT A B K N f tn zs L M h2 tm ys) lsn = ok := ⟨_, rfl⟩
        have HPO := hid (show putHOk ps (q : Int) y (okT A B K N f tn L M h2 tm) (bytesT A B K N f tn zs L M h2 tm ys) lsn = ok by rw [putHOk_yes HOK.out HOT.out HTK.out ⟨by omega, by omega, by omega⟩, Int.toNat_natCast, hkk])
        have HPH0 := hid (show putH ps (q : Int) y (okT A B K N f tn L M h2 tm) (bytesT A B K N f tn zs L M h2 tm ys) lsn = if ok = true then withH ps q (RL, RS) else [] by unfold putH; rw [HPO.out, Int.toNat_natCast, hRR])
        have HC := hid (impl_withTuple cap (q := q) y lsn A B K N tc L M td HR.out hl HOK.out hqn RK.out RV.out HNI.out HNJ.out htn htm hN hM hf hh hRR hkk)
        clear hx hRR hkk
        obtain ⟨u0, u1, u2, u3, u4, u5, u6, u7, u8, u9⟩ := S2.out
        go_wp2_with fail
        clear u0 u1 u2 u3 u4 u5 u6 u7 u8 u9 c1
        refine HC.out.mono ?_
        rintro e w7 ⟨v7, c7, rfl, og, b7⟩
        have U4 := hid ((b7.block (w.heap.size + 1 + 1) S3.out.lt).trans S3.out)
        have HB7 := hid (HB.out.trans (b7.mono HB.out.size))
        have OG := hid og
        have hz3 := HZ.out
        clear b7 og HC
        obtain ⟨QS, hQS⟩ : ∃ QS, (if ok = true then withH ps q (RL, RS) else []) = QS := ⟨_, rfl⟩
        rw [hQS] at OG ⊢
        have HQS := hid hQS
        clear hQS
        cases ok with
        | true =>
         have HPH := hid (show putH ps (q : Int) y (okT A B K N f tn L M h2 tm) (bytesT A B K N f tn zs L M h2 tm ys) lsn = withH ps q (RL, RS) by have := HPH0.out; simpa using this)
         have HQ2 := hid (show withH ps q (RL, RS) = QS by have := HQS.out; simpa using this)
         obtain ⟨NN, hNN⟩ : ∃ N, QS.length = N := ⟨_, rfl⟩
         rw [hNN] at OG ⊢
         have HNN := hid hNN
         clear hNN
         go_wp2_with (refine wpList_store_row rfl 26 (.tmp 10) (.tmp 47) rfl (w.heap.size + 1 + 1) #[.slice v7 NN c7] rfl rfl 26 _ U4.out ?w1 ?w2 ?w3 ?_)
         case w1 => simpa using size_hp
         try (case w2 => rfl)
         case w3 => simp [Value.oneCell']
         refine bodyPost_ret (results_cell_tmp Tryz.results9 _ _ (w.heap.size + 1 + 1) 26 #[.slice v7 NN c7] (0, 0) _ rfl (setRow_heap _ _ _ _ _ _ U4.out) Tryz.underlying26 rfl size_hp) rfl ?_
         rw [HPO.out, HPH.out, HQ2.out]
         exact ⟨v7, c7, by rw [HNN.out]; rfl, by rw [HNN.out]; exact (OG.out.agree (fun k h1 _ => setRow_other _ _ _ _ (by omega))).mono (by omega) (by simp), below_setRow HB7.out (by omega) _⟩
        | false =>
         have HPH := hid (show putH ps (q : Int) y (okT A B K N f tn L M h2 tm) (bytesT A B K N f tn zs L M h2 tm ys) lsn = [] by have := HPH0.out; simpa using this)
         have HQ2 := hid (show ([] : List Pg) = QS by have := HQS.out; simpa using this)
         obtain ⟨NN, hNN⟩ : ∃ N, QS.length = N := ⟨_, rfl⟩
         rw [hNN] at OG ⊢
         have HNN := hid hNN
         clear hNN
         go_wp2_with (refine wpList_store_row rfl 26 (.tmp 10) (.tmp 47) rfl (w.heap.size + 1 + 1) #[.slice v7 NN c7] rfl rfl 26 _ U4.out ?w1 ?w2 ?w3 ?_)
         case w1 => simpa using size_hp
         try (case w2 => rfl)
         case w3 => simp [Value.oneCell']
         refine bodyPost_ret (results_cell_tmp Tryz.results9 _ _ (w.heap.size + 1 + 1) 26 #[.slice v7 NN c7] (0, 0) _ rfl (setRow_heap _ _ _ _ _ _ U4.out) Tryz.underlying26 rfl size_hp) rfl ?_
         rw [HPO.out, HPH.out, HQ2.out]
         exact ⟨v7, c7, by rw [HNN.out]; rfl, by rw [HNN.out]; exact (OG.out.agree (fun k h1 _ => setRow_other _ _ _ _ (by omega))).mono (by omega) (by simp), below_setRow HB7.out (by omega) _⟩
      · rw [decide_eq_false hx]
        have HNO := hid (putHOk_no (ps := ps) (x := x) (y := y) (okt := okT A B K N f tn L M h2 tm) (bz := bytesT A B K N f tn zs L M h2 tm ys) (lsn := lsn) (.inr (.inr (.inr (fun z => hx (by rw [hl] at z; omega))))))
        clear hx c1
        go_wp2_with (refine wpList_store_row rfl 26 (.tmp 10) (.tmp 40) rfl (w.heap.size + 1 + 1) #[.slice none 0 0] rfl rfl 26 _ S3.out ?v1 ?v2 ?v3 ?_)
        case v1 => simpa using size_hp
        try (case v2 => rfl)
        case v3 => simp [Value.oneCell']
        refine bodyPost_ret (results_cell_tmp Tryz.results9 _ _ (w.heap.size + 1 + 1) 26 #[.slice none 0 0] (0, 0) _ rfl (setRow_heap _ _ _ _ _ _ S3.out) Tryz.underlying26 rfl size_hp) rfl ?_
        rw [HNO.out, putH_no HNO.out]
        exact AnsH.zero rfl (below_setRow HB.out (by omega) _)
    · go_wp2_with fail
      refine (impl_inP _ _ _ _).mono ?_
      rintro e wz ⟨rfl, e1⟩
      subst wz
      by_cases hx : 0 ≤ x ∧ x ≤ (n : Int)
      · rw [decide_eq_true hx]
        obtain ⟨q, rfl⟩ : ∃ q : Nat, x = q := ⟨x.toNat, by omega⟩
        have hqn : q ≤ n := by omega
        obtain ⟨RL, RS, hRR⟩ : ∃ RL RS, putP (ps.getD q pg0).1 (ps.getD q pg0).2 y (bytesT A B K N f tn zs L M h2 tm ys) lsn = (RL, RS) := ⟨_, _, rfl⟩
        obtain ⟨ok, hkk⟩ : ∃ ok, putOk (ps.getD q pg0).1 (ps.getD q pg0).2 y (bytesT A B K N f tn zs L M h2 tm ys) lsn = ok := ⟨_, rfl⟩
        have HPO := hid (show putHOk ps (q : Int) y (okT A B K N f tn L M h2 tm) (bytesT A B K N f tn zs L M h2 tm ys) lsn = ok by rw [putHOk_yes HOK.out HOT.out HTK.out ⟨by omega, by omega, by omega⟩, Int.toNat_natCast, hkk])
        have HPH0 := hid (show putH ps (q : Int) y (okT A B K N f tn L M h2 tm) (bytesT A B K N f tn zs L M h2 tm ys) lsn = if ok = true then withH ps q (RL, RS) else [] by unfold putH; rw [HPO.out, Int.toNat_natCast, hRR])
        have HC := hid (impl_withTuple cap (q := q) y lsn A B K N tc L M td HR.out hl HOK.out hqn RK.out RV.out HNI.out HNJ.out htn htm hN hM hf hh hRR hkk)
        clear hx hRR hkk
        obtain ⟨u0, u1, u2, u3, u4, u5, u6, u7, u8, u9⟩ := S2.out
        go_wp2_with fail
        clear u0 u1 u2 u3 u4 u5 u6 u7 u8 u9 c1
        refine HC.out.mono ?_
        rintro e w7 ⟨v7, c7, rfl, og, b7⟩
        have U4 := hid ((b7.block (w.heap.size + 1 + 1) S3.out.lt).trans S3.out)
        have HB7 := hid (HB.out.trans (b7.mono HB.out.size))
        have OG := hid og
        have hz3 := HZ.out
        clear b7 og HC
        obtain ⟨QS, hQS⟩ : ∃ QS, (if ok = true then withH ps q (RL, RS) else []) = QS := ⟨_, rfl⟩
        rw [hQS] at OG ⊢
        have HQS := hid hQS
        clear hQS
        cases ok with
        | true =>
         have HPH := hid (show putH ps (q : Int) y (okT A B K N f tn L M h2 tm) (bytesT A B K N f tn zs L M h2 tm ys) lsn = withH ps q (RL, RS) by have := HPH0.out; simpa using this)
         have HQ2 := hid (show withH ps q (RL, RS) = QS by have := HQS.out; simpa using this)
         obtain ⟨NN, hNN⟩ : ∃ N, QS.length = N := ⟨_, rfl⟩
         rw [hNN] at OG ⊢
         have HNN := hid hNN
         clear hNN
         go_wp2_with (refine wpList_store_row rfl 26 (.tmp 10) (.tmp 47) rfl (w.heap.size + 1 + 1) #[.slice v7 NN c7] rfl rfl 26 _ U4.out ?w1 ?w2 ?w3 ?_)
         case w1 => simpa using size_hp
         try (case w2 => rfl)
         case w3 => simp [Value.oneCell']
         refine bodyPost_ret (results_cell_tmp Tryz.results9 _ _ (w.heap.size + 1 + 1) 26 #[.slice v7 NN c7] (0, 0) _ rfl (setRow_heap _ _ _ _ _ _ U4.out) Tryz.underlying26 rfl size_hp) rfl ?_
         rw [HPO.out, HPH.out, HQ2.out]
         exact ⟨v7, c7, by rw [HNN.out]; rfl, by rw [HNN.out]; exact (OG.out.agree (fun k h1 _ => setRow_other _ _ _ _ (by omega))).mono (by omega) (by simp), below_setRow HB7.out (by omega) _⟩
        | false =>
         have HPH := hid (show putH ps (q : Int) y (okT A B K N f tn L M h2 tm) (bytesT A B K N f tn zs L M h2 tm ys) lsn = [] by have := HPH0.out; simpa using this)
         have HQ2 := hid (show ([] : List Pg) = QS by have := HQS.out; simpa using this)
         obtain ⟨NN, hNN⟩ : ∃ N, QS.length = N := ⟨_, rfl⟩
         rw [hNN] at OG ⊢
         have HNN := hid hNN
         clear hNN
         go_wp2_with (refine wpList_store_row rfl 26 (.tmp 10) (.tmp 47) rfl (w.heap.size + 1 + 1) #[.slice v7 NN c7] rfl rfl 26 _ U4.out ?w1 ?w2 ?w3 ?_)
         case w1 => simpa using size_hp
         try (case w2 => rfl)
         case w3 => simp [Value.oneCell']
         refine bodyPost_ret (results_cell_tmp Tryz.results9 _ _ (w.heap.size + 1 + 1) 26 #[.slice v7 NN c7] (0, 0) _ rfl (setRow_heap _ _ _ _ _ _ U4.out) Tryz.underlying26 rfl size_hp) rfl ?_
         rw [HPO.out, HPH.out, HQ2.out]
         exact ⟨v7, c7, by rw [HNN.out]; rfl, by rw [HNN.out]; exact (OG.out.agree (fun k h1 _ => setRow_other _ _ _ _ (by omega))).mono (by omega) (by simp), below_setRow HB7.out (by omega) _⟩
      · rw [decide_eq_false hx]
        have HNO := hid (putHOk_no (ps := ps) (x := x) (y := y) (okt := okT A B K N f tn L M h2 tm) (bz := bytesT A B K N f tn zs L M h2 tm ys) (lsn := lsn) (.inr (.inr (.inr (fun z => hx (by rw [hl] at z; omega))))))
        clear hx c1
        go_wp2_with (refine wpList_store_row rfl 26 (.tmp 10) (.tmp 40) rfl (w.heap.size + 1 + 1) #[.slice none 0 0] rfl rfl 26 _ S3.out ?v1 ?v2 ?v3 ?_)
        case v1 => simpa using size_hp
        try (case v2 => rfl)
        case v3 => simp [Value.oneCell']
        refine bodyPost_ret (results_cell_tmp Tryz.results9 _ _ (w.heap.size + 1 + 1) 26 #[.slice none 0 0] (0, 0) _ rfl (setRow_heap _ _ _ _ _ _ S3.out) Tryz.underlying26 rfl size_hp) rfl ?_
        rw [HNO.out, putH_no HNO.out]
        exact AnsH.zero rfl (below_setRow HB.out (by omega) _)
end Go.Proofs.YtkfhfjghfadofaaGreat
