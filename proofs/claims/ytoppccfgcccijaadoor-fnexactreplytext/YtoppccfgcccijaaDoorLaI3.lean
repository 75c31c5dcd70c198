/- FnExactReplyText's walk. Conditions: none but what the arguments' types say, and the library's table of powers of ten. -/
import Derived.Test.YtoppccfgcccijaaDoorRi18
import Derived.Test.YtoppccfgcccijaaDoorRj18
import Derived.Test.YtoppccfgcccijaaDoorRe18
import Derived.Test.YtoppccfgcccijaaDoorNr
import Derived.Test.YtoppccfgcccijaaDoorMt
namespace Go.Proofs.YtoppccfgcccijaaDoor
open Go.RowKit
set_option maxRecDepth 100000

structure RowR (w : World) (g : Nat) (xs : Array Value) (t : TypeId) : Prop where
  h : w.heap[g]? = some (.cells xs t)
theorem RowR.lt {w : World} {g : Nat} {xs : Array Value} {t : TypeId} (q : RowR w g xs t) : g < w.heap.size := (Array.getElem?_eq_some_iff.1 q.h).1
theorem RowR.below {w w' : World} {g : Nat} {xs : Array Value} {t : TypeId} (q : RowR w g xs t) {B : Nat} (hb : Below B w w') (hB : w.heap.size ≤ B) : RowR w' g xs t := ⟨(hb.block g (by have := q.lt; omega)).trans q.h⟩
theorem RowR.within {w w' : World} {g lo hi : Nat} {xs : Array Value} {t : TypeId} (q : RowR w g xs t) (W : Within lo hi w w') (h : g < lo ∨ hi ≤ g) : RowR w' g xs t := ⟨(W.block g q.lt h).trans q.h⟩
theorem RowR.other {w w' : World} {g : Nat} {xs : Array Value} {t : TypeId} {row : Option Nat} (q : RowR w g xs t) (G : w.grownBy w' row) (h : some g ≠ row) : RowR w' g xs t := ⟨(G.block g q.lt h).trans q.h⟩
theorem reads_within18 {w w' : World} {a : Option Addr} {n lo hi : Nat} {zs : List Int} (h : Reads w a n zs) (W : Within lo hi w w') (hb : ∀ x, a = some x → 0 < n → x.block < lo ∨ hi ≤ x.block) : Reads w' a n zs := by
  rcases Nat.eq_zero_or_pos n with h0 | h0
  · exact ⟨h.len, .inl h0, h.bd⟩
  · refine ⟨h.len, ?_, h.bd⟩
    rcases h.cells with h1 | ⟨b, off, rfl, hc⟩
    · omega
    · refine .inr ⟨b, off, rfl, fun i hi' => ?_⟩
      have hlt := World.block_lt_of_cell? w _ (hc i hi')
      exact (World.cell?_of_block (w := w) (a := ⟨b, off + i, none⟩) (W.block b hlt (hb _ rfl h0))).trans (hc i hi')
theorem OwF.within {B n lo hi : Nat} {w w' : World} {v : Value} {L : List Value} (h : OwF B w v n L) (W : Within lo hi w w') (hB : hi ≤ B) : OwF B w' v n L := by
  rcases h with h | ⟨g, cap, cur, fz, rfl, hb, hg, rest⟩
  · exact .inl h
  · exact .inr ⟨g, cap, cur, fz, rfl, hb, (W.block g (Array.getElem?_eq_some_iff.1 hg).1 (.inr (by omega))).trans hg, rest⟩
theorem below_within18 {B lo hi : Nat} {w0 w w' : World} (h : Below B w0 w) (W : Within lo hi w w') (hB : B ≤ lo) (hs : B ≤ w.heap.size) : Below B w0 w' :=
  ⟨W.os.trans h.os, W.tape.trans h.tape, W.output.trans h.output, Nat.le_trans h.size W.size, fun k hk => (W.block k (by omega) (.inl (by omega))).trans (h.block k hk)⟩
theorem reads_farR {w w' : World} {a : Option Addr} {n S : Nat} {zs : List Int} {row : Option Nat} (h : Reads w a n zs) (g : w.grownBy w' row) (hS : ∀ x, a = some x → 0 < n → x.block < S) (hr : ∀ k, row = some k → S ≤ k) : Reads w' a n zs := by
  rcases Nat.eq_zero_or_pos n with h0 | h0
  · exact ⟨h.len, .inl h0, h.bd⟩
  · exact h.other g (fun x hx e => by have := hS x hx h0; have := hr _ e.symm; omega)
theorem own_in18 {a : Option Addr} {lo hi : Nat} (h : a = none ∨ ∃ g, a = some ⟨g, 0, none⟩ ∧ lo ≤ g ∧ g < hi) {x : Addr} (hx : a = some x) : lo ≤ x.block ∧ x.block < hi := by
  rcases h with rfl | ⟨g, rfl, h1, h2⟩
  · cases hx
  · cases hx; exact ⟨h1, h2⟩

set_option maxHeartbeats 12800000 in
theorem exactReplyText (se kd co nn K N : Int) (f : Nat) {ad : Option Addr} {n : Nat} (c : Nat) {ar : Option Addr} {m : Nat} (cr : Nat) (tot : Nat) {zs : List Int} {es : List Im} {w : World} (r1 : Reads w ad n zs) (r2 : ReadsM w ar es) (hl : es.length = m * 2) (ht : PowT w) (hm1 : n ≤ maxLen) (hm2 : m ≤ maxLen) (hN : -9223372036854775808 ≤ N ∧ N ≤ 9223372036854775807) (hse : -9223372036854775808 ≤ se ∧ se ≤ 9223372036854775807) (hkd : -9223372036854775808 ≤ kd ∧ kd ≤ 9223372036854775807) (hnn : -9223372036854775808 ≤ nn ∧ nn ≤ 9223372036854775807) (hNs : ∀ j, -9223372036854775808 ≤ (es.getD j im0).N ∧ (es.getD j im0).N ≤ 9223372036854775807) (hf : f < 18446744073709551616) (htot : tot < 18446744073709551616) :
    Calls Tryd.prog 5 #[.agg #[.int .i64 se, .int .i64 kd, .int .i64 co, .int .i64 nn, .int .i64 K, .int .i64 N, .float .f64 f, .slice ad n c, .slice ar m cr, .float .f64 tot]] w fun e w' => e = .returned (.bool true) ∧ Below w.heap.size w w' := by
  unfold maxLen at hm1 hm2
  have hst1 := fun w a m => run_store Tryd.prog w a (.float .f64 f) m rfl
  have hst2 := fun w a m => run_store Tryd.prog w a (.float .f64 tot) m rfl
  have HB := hid (Below.alloc1 w (.cells #[.int .i64 se, .int .i64 kd, .int .i64 co, .int .i64 nn, .int .i64 K, .int .i64 N, .float .f64 f, .slice ad n c, .slice ar m cr, .float .f64 tot] 41))
  have HA := hid (RowR.mk (heap_alloc_new w (.cells #[.int .i64 se, .int .i64 kd, .int .i64 co, .int .i64 nn, .int .i64 K, .int .i64 N, .float .f64 f, .slice ad n c, .slice ar m cr, .float .f64 tot] 41)))
  have RR := hid (And.intro r1 r2)
  have HP := hid ht
  have bd := hid r1.bd
  have HL := hid hl
  have HNs := hid hNs
  clear r1 r2 ht hl hNs
  go_enter Tryd.func5, Tryd.ntmps5
  go_wp2_with (refine wpList_load_row rfl 41 (.tmp 1) rfl w.heap.size rfl 41 _ (0, 0) _ HA.out.h Tryd.underlying41 rfl size_lrp18 ?_)
  generalize w.alloc (.cells #[.int .i64 se, .int .i64 kd, .int .i64 co, .int .i64 nn, .int .i64 K, .int .i64 N, .float .f64 f, .slice ad n c, .slice ar m cr, .float .f64 tot] 41) = W0 at *
  refine (szReply se kd co nn K N f ad n c cr tot 1048576 (RR.out.2.below HB.out (Nat.le_refl _)) HL.out (by omega) (by omega) (by omega) (by omega)).mono ?_
  rintro e w1 ⟨rfl, b⟩
  replace HA := hid (HA.out.below b (Nat.le_refl _))
  replace HB := hid (HB.out.trans (b.mono HB.out.size))
  clear b
  by_cases hbig : (1048576 : Int) < ((n + (m + sumI es) : Nat) : Int)
  · rw [show lft13 1048576 (n + (m + sumI es)) = -1 by unfold lft13; rw [if_pos hbig]]
    go_wp2_with fail
    go_ret
    exact ⟨rfl, HB.out⟩
  obtain ⟨LF, hLF⟩ : ∃ LF : Int, (1048576 : Int) - ((n + (m + sumI es) : Nat) : Int) = LF := ⟨_, rfl⟩
  rw [show lft13 1048576 (n + (m + sumI es)) = LF by unfold lft13; rw [if_neg hbig, hLF]]
  have hq0 : ¬ LF < 0 := by omega
  have hn : n ≤ 1048576 := by omega
  have hm : m ≤ 1048576 := by omega
  have hs : sumI es ≤ 1048576 := by omega
  have HZ := hid (show ∀ j, (es.getD j im0).Z.length ≤ 2097152 from fun j => by
    by_cases hj : j < es.length
    · have := sumI_at es j hj; omega
    · rw [List.getD_eq_getElem?_getD, List.getElem?_eq_none (by omega)]; simp [im0])
  clear hbig hLF hm1 hm2
  obtain ⟨RZ, hR⟩ : ∃ RZ, txtR se kd co nn K N f zs tot es m = RZ := ⟨_, rfl⟩
  have HbR := hid (show ∀ i, 0 ≤ RZ.getD i 0 ∧ RZ.getD i 0 ≤ 255 by rw [← hR]; exact txtR_byte hse hkd hnn hN bd.out htot (fun j => HNs.out j) (fun j => RR.out.2.bytes18 j))
  have hRl : RZ.length ≤ 268435456 := by have := txtR_len se kd co nn K N f zs tot es m; rw [hR] at this; omega
  have HR := hid hR
  have hR0 : 0 ≤ (RZ.length : Int) := by omega
  have hR1 : (RZ.length : Int) ≤ 268435456 := by omega
  clear hR
  go_wp2_with (refine wpList_load_row rfl 41 (.tmp 1) rfl w.heap.size rfl 41 _ (0, 0) _ HA.out.h Tryd.underlying41 rfl size_lrp18 ?_)
  clear hq0
  refine (toReply se kd co nn K N f c cr tot (RR.out.1.below HB.out (Nat.le_refl _)) (RR.out.2.below HB.out (Nat.le_refl _)) HL.out (by omega) (by omega) (by omega)).mono ?_
  rintro e w2 ⟨p1, p2, rfl, o, b⟩
  have HPp := hid o
  clear o
  replace HA := hid (HA.out.below b (Nat.le_refl _))
  replace HB := hid (HB.out.trans (b.mono HB.out.size))
  clear b
  go_wp2_with fail
  refine (spec_ReplyText se kd co nn K N f n m tot (HPp.out.rd bd.out).1 (HPp.out.rd bd.out).2 HL.out (by omega) (by omega) HZ.out hN hse hkd hnn HNs.out hf htot).mono ?_
  rintro e w3 ⟨v, rfl, o, b⟩
  rw [HR.out] at o
  obtain ⟨ad0, cap0, rfl, q, d0⟩ := Reads.own o HbR.out
  have HQ := hid q
  have D0 := hid d0
  have L2 := hid HB.out.size
  clear o q d0 HPp
  replace HA := hid (HA.out.below b (Nat.le_refl _))
  replace HB := hid (HB.out.trans (b.mono HB.out.size))
  clear b
  have L3 := hid HB.out.size
  generalize w2.heap.size = S2 at *
  go_wp2_with (refine wpList_load_row rfl 41 (.tmp 1) rfl w.heap.size rfl 41 _ (0, 0) _ HA.out.h Tryd.underlying41 rfl size_lrp18 ?_)
  refine (toReply se kd co nn K N f c cr tot (RR.out.1.below HB.out (Nat.le_refl _)) (RR.out.2.below HB.out (Nat.le_refl _)) HL.out (by omega) (by omega) (by omega)).mono ?_
  rintro e w4 ⟨x1, x2, rfl, o, b⟩
  have HX := hid o
  have LA := hid HA.out.lt
  have LTx := hid (show w3.heap.size ≤ w4.heap.size from b.size)
  clear o
  replace HA := hid (HA.out.below b (Nat.le_refl _))
  replace HQ := hid (HQ.out.below b (Nat.le_refl _))
  replace HB := hid (HB.out.trans (b.mono HB.out.size))
  clear b
  have BX := hid (RowR.mk (heap_alloc_new w4 (.cells #[.int .i64 se, .int .i64 kd, .int .i64 co, .int .i64 nn, .int .i64 K, .int .i64 N, .float .f64 f, .slice (some ⟨x1, 0, none⟩) n n, .slice (some ⟨x2, 0, none⟩) m m, .float .f64 tot] 46)))
  have b := Below.alloc1 w4 (.cells #[.int .i64 se, .int .i64 kd, .int .i64 co, .int .i64 nn, .int .i64 K, .int .i64 N, .float .f64 f, .slice (some ⟨x1, 0, none⟩) n n, .slice (some ⟨x2, 0, none⟩) m m, .float .f64 tot] 46)
  have LX := hid (alloc_size w4 (.cells #[.int .i64 se, .int .i64 kd, .int .i64 co, .int .i64 nn, .int .i64 K, .int .i64 N, .float .f64 f, .slice (some ⟨x1, 0, none⟩) n n, .slice (some ⟨x2, 0, none⟩) m m, .float .f64 tot] 46))
  replace HX := hid (HX.out.below b)
  replace HA := hid (HA.out.below b (Nat.le_refl _))
  replace HQ := hid (HQ.out.below b (Nat.le_refl _))
  replace HB := hid (HB.out.trans (b.mono HB.out.size))
  clear b
  go_wp2_with (refine wpList_load_row rfl 46 (.tmp 5) rfl w4.heap.size rfl 46 _ (0, 0) _ BX.out.h Tryd.underlying46 rfl size_rp18 ?_)
  generalize w4.alloc (.cells #[.int .i64 se, .int .i64 kd, .int .i64 co, .int .i64 nn, .int .i64 K, .int .i64 N, .float .f64 f, .slice (some ⟨x1, 0, none⟩) n n, .slice (some ⟨x2, 0, none⟩) m m, .float .f64 tot] 46) = W1 at *
  obtain ⟨gx, hgx⟩ : ∃ gx, w4.heap.size = gx := ⟨_, rfl⟩
  rw [hgx] at BX HX LX LTx
  try simp only [hgx]
  clear hgx
  refine (impl_ReplyText se kd co nn K N f n m tot (HX.out.rd bd.out).1 (HX.out.rd bd.out).2 HL.out (by omega) (by omega) HZ.out hN hse hkd hnn HNs.out hf htot (HP.out.below HB.out (Nat.le_refl _))).mono ?_
  rintro e w5 ⟨v, rfl, o, b⟩
  rw [HR.out] at o
  obtain ⟨ad1, cap1, rfl, q, d1⟩ := Reads.ownF o HbR.out
  have HG := hid q
  have OG := hid o
  have D1 := hid d1
  replace HX := hid (HX.out.below b)
  clear o q d1
  replace HA := hid (HA.out.below b (Nat.le_refl _))
  replace HQ := hid (HQ.out.below b (Nat.le_refl _))
  replace BX := hid (BX.out.below b (Nat.le_refl _))
  replace HB := hid (HB.out.trans (b.mono HB.out.size))
  clear b
  have LT := hid (show gx ≤ W1.heap.size by have := LX.out; omega)
  generalize W1.heap.size = T at *
  go_wp2_with fail
  refine (eqByteS_any_big cap1 cap0 HG.out HQ.out (by omega)).mono ?_
  rintro e w6 ⟨rfl, s⟩
  have b := s.below w5.heap.size
  clear s
  replace HX := hid (HX.out.below b)
  replace HA := hid (HA.out.below b (Nat.le_refl _))
  replace HQ := hid (HQ.out.below b (Nat.le_refl _))
  replace BX := hid (BX.out.below b (Nat.le_refl _))
  replace HG := hid (HG.out.below b (Nat.le_refl _))
  replace OG := hid (OG.out.below b (Nat.le_refl _))
  replace HB := hid (HB.out.trans (b.mono HB.out.size))
  clear b
  go_wp2_with fail
  have b := (Still.drew w6).below w6.heap.size
  replace HX := hid (HX.out.below b)
  replace HA := hid (HA.out.below b (Nat.le_refl _))
  replace HQ := hid (HQ.out.below b (Nat.le_refl _))
  replace BX := hid (BX.out.below b (Nat.le_refl _))
  replace HG := hid (HG.out.below b (Nat.le_refl _))
  replace OG := hid (OG.out.below b (Nat.le_refl _))
  replace HB := hid (HB.out.trans (b.mono HB.out.size))
  clear b
  refine region_K 99 (fun W => RowR W w.heap.size #[.int .i64 se, .int .i64 kd, .int .i64 co, .int .i64 nn, .int .i64 K, .int .i64 N, .float .f64 f, .slice ad n c, .slice ar m cr, .float .f64 tot] 41 ∧ RowR W gx #[.int .i64 se, .int .i64 kd, .int .i64 co, .int .i64 nn, .int .i64 K, .int .i64 N, .float .f64 f, .slice (some ⟨x1, 0, none⟩) n n, .slice (some ⟨x2, 0, none⟩) m m, .float .f64 tot] 46) (by kernel_rfl) ?_ (fun hHeld => ?_)
  · exact ⟨HA.out, BX.out⟩
  generalize w6.drew = v1 at *
  refine anyK_take2 (i := 0) (v := .agg #[.int .i64 se, .int .i64 kd, .int .i64 co, .int .i64 nn, .int .i64 K, .int .i64 N, .float .f64 f, .slice (some ⟨x1, 0, none⟩) n n, .slice (some ⟨x2, 0, none⟩) m m, .float .f64 tot]) rfl (by kernel_rfl) (by kernel_rfl) (by kernel_rfl) (by rfl) (fun _ _ _ h => h) (by rfl) hHeld ?hy0 (some 27) (by rfl) ?rest0
  case hy0 => exact fun W hSw => exec_load18 46 (.tmp 5) rfl gx rfl 46 _ (0, 0) _ hSw.2.h Tryd.underlying46 rfl size_rp18
  (try simp only [Act.put]); (try simp only [List.setIfInBounds_toArray]); (try simp only [List.set_cons_succ]); (try simp only [List.set_cons_zero])
  refine anyK_take2 (i := 1) (v := .agg #[.int .i64 se, .int .i64 kd, .int .i64 co, .int .i64 nn, .int .i64 K, .int .i64 N, .float .f64 f, .slice ad n c, .slice ar m cr, .float .f64 tot]) rfl (by kernel_rfl) (by kernel_rfl) (by kernel_rfl) (by rfl) (fun _ _ _ h => h) (by rfl) hHeld ?hy1 (some 28) (by rfl) ?rest1
  case hy1 => exact fun W hSw => exec_load18 41 (.tmp 1) rfl w.heap.size rfl 41 _ (0, 0) _ hSw.1.h Tryd.underlying41 rfl size_lrp18
  (try simp only [Act.put]); (try simp only [List.setIfInBounds_toArray]); (try simp only [List.set_cons_succ]); (try simp only [List.set_cons_zero])
  refine anyK_step (i := 2) (by kernel_rfl) rfl (fun KP hK => ?_)
  go_simp
  refine (toReply se kd co nn K N f c cr tot (RR.out.1.below HB.out (Nat.le_refl _)) (RR.out.2.below HB.out (Nat.le_refl _)) HL.out (by omega) (by omega) (by omega)).mono ?_
  rintro e w7 ⟨y1, y2, rfl, o, b⟩
  replace HX := hid (HX.out.below b)
  have HY := hid o
  clear o
  replace HA := hid (HA.out.below b (Nat.le_refl _))
  replace HQ := hid (HQ.out.below b (Nat.le_refl _))
  replace BX := hid (BX.out.below b (Nat.le_refl _))
  replace HG := hid (HG.out.below b (Nat.le_refl _))
  replace OG := hid (OG.out.below b (Nat.le_refl _))
  replace HB := hid (HB.out.trans (b.mono HB.out.size))
  clear b
  go_wp2_with fail
  refine hK.out _ _ ?_ (fun hH2 => ?_)
  · exact ⟨HA.out, BX.out⟩
  clear hK KP hHeld
  have hHeld := hH2
  clear hH2
  (try simp only [Act.put]); (try simp only [List.setIfInBounds_toArray]); (try simp only [List.set_cons_succ]); (try simp only [List.set_cons_zero])
  refine anyK_step (i := 3) (by kernel_rfl) rfl (fun KP hK => ?_)
  go_simp
  refine (eqReply se kd co nn K N f n m x1 x2 y1 y2 tot hf htot (HX.out.rd bd.out).1 (HY.out.rd bd.out).1 (HX.out.rd bd.out).2 (HY.out.rd bd.out).2 HL.out (by omega) (by omega) (by omega)).mono ?_
  rintro e w8 ⟨rfl, b⟩
  replace HX := hid (HX.out.below b)
  replace HA := hid (HA.out.below b (Nat.le_refl _))
  replace HQ := hid (HQ.out.below b (Nat.le_refl _))
  replace BX := hid (BX.out.below b (Nat.le_refl _))
  replace HG := hid (HG.out.below b (Nat.le_refl _))
  replace OG := hid (OG.out.below b (Nat.le_refl _))
  replace HB := hid (HB.out.trans (b.mono HB.out.size))
  clear b
  go_wp2_with fail
  refine hK.out _ _ ?_ (fun hH2 => ?_)
  · exact ⟨HA.out, BX.out⟩
  clear hK KP hHeld
  have hHeld := hH2
  clear hH2
  (try simp only [Act.put]); (try simp only [List.setIfInBounds_toArray]); (try simp only [List.set_cons_succ]); (try simp only [List.set_cons_zero])
  refine anyK_step (i := 4) (by kernel_rfl) rfl (fun KP hK => ?_)
  go_simp
  refine hK.out _ _ ?_ (fun hH2 => ?_)
  · exact ⟨HA.out, BX.out⟩
  clear hK KP hHeld
  have hHeld := hH2
  clear hH2
  (try simp only [Act.put]); (try simp only [List.setIfInBounds_toArray]); (try simp only [List.set_cons_succ]); (try simp only [List.set_cons_zero])
  refine anyK_done (by kernel_rfl) ?_ _
  clear hHeld HY
  go_wp2_with (refine wpList_load_row rfl 46 (.tmp 5) rfl gx rfl 46 _ (0, 0) _ BX.out.h Tryd.underlying46 rfl size_rp18 ?_)
  refine (markReply se kd co nn K N f n m x1 x2 tot _ _ HX.out HL.out (by omega) (by omega) (by omega)).mono ?_
  rintro e w9 ⟨⟨kq, hkq, rfl⟩, WI⟩
  replace HA := hid (HA.out.within WI (.inl LA.out))
  replace HQ := hid (reads_within18 HQ.out WI (fun x hx _ => .inl (own_in18 D0.out hx).2))
  replace HG := hid (reads_within18 HG.out WI (fun x hx _ => .inr (Nat.le_trans LT.out (own_in18 D1.out hx).1)))
  replace OG := hid (OG.out.within WI LT.out)
  replace HB := hid (below_within18 HB.out WI L3.out HB.out.size)
  have hk : ¬ kq < 0 := by omega
  clear WI HX BX hkq
  go_wp2_with fail
  refine (eqByteS_any_big cap1 cap0 HG.out HQ.out (by omega)).mono ?_
  rintro e w10 ⟨rfl, s⟩
  have b := s.below w9.heap.size
  clear s
  replace HA := hid (HA.out.below b (Nat.le_refl _))
  replace HQ := hid (HQ.out.below b (Nat.le_refl _))
  replace HG := hid (HG.out.below b (Nat.le_refl _))
  replace OG := hid (OG.out.below b (Nat.le_refl _))
  replace HB := hid (HB.out.trans (b.mono HB.out.size))
  clear b
  go_wp2_with fail
  refine (markByteS_F_big 1 (by omega) (by omega) (by omega) OG.out).mono ?_
  rintro e w11 ⟨rfl, o, gg⟩
  obtain ⟨_, _, e1, r, _⟩ := Reads.ownF o (marks_bd 1 RZ.length)
  obtain ⟨rfl, _, rfl⟩ := Value.slice.inj e1
  have hge := own_ge (n := RZ.length) (cap := cap1) D1.out
  replace HB := hid (HB.out.grown gg HB.out.size (fun k hk => Nat.le_trans (Nat.le_trans (Nat.le_of_lt (Nat.lt_of_lt_of_le LA.out LTx.out)) LT.out) (hge k hk)))
  replace HA := hid (HA.out.other gg (fun e => by have := hge _ e.symm; have := LA.out; have := LTx.out; have := LT.out; omega))
  replace HQ := hid (reads_farR HQ.out gg (fun x hx _ => (own_in18 D0.out hx).2) (fun k hk => Nat.le_trans (Nat.le_trans LTx.out LT.out) (hge k hk)))
  replace HG := hid r
  clear OG o gg e1 r hge
  have hk : ¬ (1 + (RZ.length : Int)) < 0 := by omega
  go_wp2_with fail
  refine (heldByteS_any_big cap1 1 HG.out (by omega) (by omega) (by omega)).mono ?_
  rintro e w12 ⟨rfl, e12⟩
  subst e12
  go_wp2_with (refine wpList_load_row rfl 41 (.tmp 1) rfl w.heap.size rfl 41 _ (0, 0) _ HA.out.h Tryd.underlying41 rfl size_lrp18 ?_)
  refine (toReply se kd co nn K N f c cr tot (RR.out.1.below HB.out (Nat.le_refl _)) (RR.out.2.below HB.out (Nat.le_refl _)) HL.out (by omega) (by omega) (by omega)).mono ?_
  rintro e w13 ⟨y1, y2, rfl, o, b⟩
  have HY := hid o
  clear o
  replace HA := hid (HA.out.below b (Nat.le_refl _))
  replace HQ := hid (HQ.out.below b (Nat.le_refl _))
  replace HG := hid (HG.out.below b (Nat.le_refl _))
  replace HB := hid (HB.out.trans (b.mono HB.out.size))
  clear b
  go_wp2_with fail
  refine (impl_ReplyText se kd co nn K N f n m tot (HY.out.rd bd.out).1 (HY.out.rd bd.out).2 HL.out (by omega) (by omega) HZ.out hN hse hkd hnn HNs.out hf htot (HP.out.below HB.out (Nat.le_refl _))).mono ?_
  rintro e w14 ⟨v, rfl, o, b⟩
  rw [HR.out] at o
  obtain ⟨ad2, cap2, rfl, q, _⟩ := Reads.ownF o HbR.out
  have HH := hid q
  clear o q HY
  replace HA := hid (HA.out.below b (Nat.le_refl _))
  replace HQ := hid (HQ.out.below b (Nat.le_refl _))
  replace HG := hid (HG.out.below b (Nat.le_refl _))
  replace HB := hid (HB.out.trans (b.mono HB.out.size))
  clear b
  go_wp2_with fail
  refine (eqByteS_any_big cap2 cap0 HH.out HQ.out (by omega)).mono ?_
  rintro e w15 ⟨rfl, s⟩
  have b := s.below w14.heap.size
  clear s
  replace HA := hid (HA.out.below b (Nat.le_refl _))
  replace HQ := hid (HQ.out.below b (Nat.le_refl _))
  replace HG := hid (HG.out.below b (Nat.le_refl _))
  replace HB := hid (HB.out.trans (b.mono HB.out.size))
  clear b
  go_wp2_with fail
  refine (heldByteS_any_big cap1 1 HG.out (by omega) (by omega) (by omega)).mono ?_
  rintro e w16 ⟨rfl, e16⟩
  subst e16
  go_wp2_with fail
  go_ret
  exact ⟨rfl, HB.out⟩
end Go.Proofs.YtoppccfgcccijaaDoor
