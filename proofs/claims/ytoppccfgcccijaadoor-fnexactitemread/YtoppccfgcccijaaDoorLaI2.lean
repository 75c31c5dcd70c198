/- FnExactItemRead's walk. -/
import Derived.Test.YtoppccfgcccijaaDoorYj18
import Derived.Test.YtoppccfgcccijaaDoorNr
import Derived.Test.YtoppccfgcccijaaDoorMt
import Derived.Deep.RegionHeld3
namespace Go.Proofs.YtoppccfgcccijaaDoor
open Go.RowKit

theorem Reads.lt18 {w : World} {a : Option Addr} {n : Nat} {zs : List Int} (h : Reads w a n zs) : ∀ x, a = some x → 0 < n → x.block < w.heap.size := by
  intro x hx hn
  rcases h.cells with h0 | ⟨b, off, e, hc⟩
  · omega
  · rw [e] at hx
    cases hx
    exact World.block_lt_of_cell? w _ (hc 0 hn)
theorem reads_far18 {w w' : World} {a : Option Addr} {n S : Nat} {zs : List Int} {row : Option Nat} (h : Reads w a n zs) (g : w.grownBy w' row) (hS : ∀ x, a = some x → 0 < n → x.block < S) (hr : ∀ k, row = some k → S ≤ k) : Reads w' a n zs := by
  rcases Nat.eq_zero_or_pos n with h0 | h0
  · exact ⟨h.len, .inl h0, h.bd⟩
  · exact h.other g (fun x hx e => by have := hS x hx h0; have := hr _ e.symm; omega)

set_option maxRecDepth 100000 in
set_option maxHeartbeats 12800000 in
theorem exactItemRead {ad : Option Addr} {n : Nat} (cap : Nat) {zs : List Int} {w : World} (h : Reads w ad n zs) (ht : LibT w) (hm : n ≤ maxLen) :
    Calls Tryd.prog 4 #[.slice ad n cap] w fun e w' => e = .returned (.bool true) ∧ Below w.heap.size w w' := by
  unfold maxLen at hm
  have bd := h.bd
  have HPw := hid ht
  clear ht
  have H := hid h
  by_cases hbig : 1048576 < n
  · go_enter Tryd.func4, Tryd.ntmps4
    go_wp2_with fail
    go_ret
    exact ⟨rfl, Below.refl _ _⟩
  have hn : n ≤ 1048576 := by omega
  have HA := H
  have HB := hid (Below.refl w.heap.size w)
  obtain ⟨RK, RN, RF, RZ, ok, hR⟩ : ∃ (RK RN : Int) (RF : Nat) (RZ : List Int) (ok : Bool), ansI zs = (RK, RN, RF, RZ, ok) := ⟨_, _, _, _, _, rfl⟩
  obtain ⟨bdR, hRl⟩ := ansI_bd hR
  have HR := hid hR
  have hR0 : 0 ≤ (RZ.length : Int) := by omega
  have hR1 : (RZ.length : Int) ≤ 2097152 := by omega
  have hn0 : 0 ≤ (n : Int) := by omega
  clear hR h
  go_enter Tryd.func4, Tryd.ntmps4
  go_wp2_with fail
  refine (toByteS_any cap HA.out (by omega)).mono ?_
  rintro e w2 ⟨rfl, o, b⟩
  replace HA := hid (HA.out.below b (Nat.le_refl _))
  replace HB := hid (HB.out.trans (b.mono HB.out.size))
  obtain ⟨_, _, e1, p, _⟩ := Reads.own o bd
  obtain ⟨rfl, _, rfl⟩ := Value.slice.inj e1
  have P := hid p
  clear o b e1 p
  go_wp2_with fail
  refine (spec_ItemRead_n n (Nat.le_refl _) P.out (by omega) HR.out).mono ?_
  rintro e w3 ⟨fs, ad0, cap0, rfl, hfs, SS, q, b⟩
  have d0 := q.lt18
  have l1 : w.heap.size ≤ w2.heap.size := HB.out.size
  replace HA := hid (HA.out.below b (Nat.le_refl _))
  replace HB := hid (HB.out.trans (b.mono HB.out.size))
  clear P
  have hss := fun w a m => run_store Tryd.prog w a (.float .f64 fs) m rfl
  have Q := hid q
  have D0 := hid d0
  have L1 := hid l1
  have l2 := hid b.size
  clear b q d0 l1
  go_wp2_with fail
  have HQ := hid (Arg.new RK RN fs cap0 Q.out 28 w3.heap.size rfl)
  replace HA := hid (HA.out.alloc (.cells #[.int .i64 RK, .int .i64 RN, .float .f64 fs, .slice ad0 RZ.length cap0] 28))
  replace HB := hid (HB.out.trans ((Below.alloc1 w3 (.cells #[.int .i64 RK, .int .i64 RN, .float .f64 fs, .slice ad0 RZ.length cap0] 28)).mono HB.out.size))
  generalize w3.alloc (.cells #[.int .i64 RK, .int .i64 RN, .float .f64 fs, .slice ad0 RZ.length cap0] 28) = t0 at *
  generalize w3.heap.size = S0 at *
  generalize w2.heap.size = L0 at *
  clear Q
  have HL : Hid (S0 ≤ t0.heap.size) := hid (Nat.le_of_lt HQ.out.lt)
  refine (toByteS_any cap HA.out (by omega)).mono ?_
  rintro e w4 ⟨rfl, o, b⟩
  have x2 : t0.heap.size < w4.heap.size := (o.lt t0.heap.size rfl).2
  have NX := hid (show S0 ≤ t0.heap.size from HL.out)
  have NQ := hid (show S0 < t0.heap.size from HQ.out.lt)
  have NA := hid (show w.heap.size ≤ t0.heap.size from HB.out.size)
  have HX2 := hid x2
  replace HA := hid (HA.out.below b (Nat.le_refl _))
  replace HQ := hid (HQ.out.below b (Nat.le_refl _))
  replace HL := hid (Nat.le_trans HL.out b.size)
  replace HB := hid (HB.out.trans (b.mono HB.out.size))
  obtain ⟨_, _, e1, p, _⟩ := Reads.own o bd
  obtain ⟨rfl, _, rfl⟩ := Value.slice.inj e1
  have HX := hid p
  have OX := hid o
  clear o b e1 p x2
  have XT := HX2
  generalize t0.heap.size = x at *
  go_wp2_with fail
  have NT := hid (show S0 ≤ w4.heap.size from HL.out)
  have TA := hid (show w.heap.size ≤ w4.heap.size from HB.out.size)
  have QT := hid (show S0 < w4.heap.size from HQ.out.lt)
  refine (impl_ItemRead n HX.out (by omega) (HPw.out.below HB.out (Nat.le_refl _)) HR.out).mono ?_
  rintro e w5 ⟨fi, v, rfl, hfi, SI, o, b⟩
  obtain ⟨ad1, cap1, rfl, q, d1⟩ := Reads.own o bdR
  replace HA := hid (HA.out.below b (Nat.le_refl _))
  replace HQ := hid (HQ.out.below b (Nat.le_refl _))
  replace HL := hid (Nat.le_trans HL.out b.size)
  replace HX := hid (HX.out.below b (Nat.le_refl _))
  replace OX := hid (owns_below b (Nat.le_refl _) OX.out)
  replace HB := hid (HB.out.trans (b.mono HB.out.size))
  clear HL
  have D1 := hid d1
  have OG := hid o
  have TC := hid b.size
  have hsi := fun w a m => run_store Tryd.prog w a (.float .f64 fi) m rfl
  have Q := hid q
  clear o b q d1
  obtain ⟨c00, c01, c02, c03⟩ := (HQ.out.alloc (.cells #[.int .i64 RK, .int .i64 RN, .float .f64 fi, .slice ad1 RZ.length cap1] 28)).box
  go_wp2_with fail
  clear c00 c01 c02 c03
  have HG := hid (Arg.new RK RN fi cap1 Q.out 28 w5.heap.size rfl)
  replace HA := hid (HA.out.alloc (.cells #[.int .i64 RK, .int .i64 RN, .float .f64 fi, .slice ad1 RZ.length cap1] 28))
  replace HQ := hid (HQ.out.alloc (.cells #[.int .i64 RK, .int .i64 RN, .float .f64 fi, .slice ad1 RZ.length cap1] 28))
  replace HX := hid (HX.out.alloc (.cells #[.int .i64 RK, .int .i64 RN, .float .f64 fi, .slice ad1 RZ.length cap1] 28))
  replace OX := hid (OX.out.alloc (.cells #[.int .i64 RK, .int .i64 RN, .float .f64 fi, .slice ad1 RZ.length cap1] 28))
  replace OG := hid (OG.out.alloc (.cells #[.int .i64 RK, .int .i64 RN, .float .f64 fi, .slice ad1 RZ.length cap1] 28))
  replace HB := hid (HB.out.trans ((Below.alloc1 w5 (.cells #[.int .i64 RK, .int .i64 RN, .float .f64 fi, .slice ad1 RZ.length cap1] 28)).mono HB.out.size))
  generalize w5.alloc (.cells #[.int .i64 RK, .int .i64 RN, .float .f64 fi, .slice ad1 RZ.length cap1] 28) = t2 at *
  generalize w5.heap.size = C at *
  clear Q
  generalize w4.heap.size = T at *
  have hok1 : (ok != ok) = false := by cases ok <;> rfl
  refine (eqItem RK RN fi fs cap1 cap0 hfi hfs (Same.both SI.out SS.out) HG.out.reads HQ.out.reads (by omega)).mono ?_
  rintro e w6 ⟨rfl, b⟩
  replace HA := hid (HA.out.below b (Nat.le_refl _))
  replace HQ := hid (HQ.out.below b (Nat.le_refl _))
  replace HX := hid (HX.out.below b (Nat.le_refl _))
  replace OX := hid (owns_below b (Nat.le_refl _) OX.out)
  replace HG := hid (HG.out.below b (Nat.le_refl _))
  replace OG := hid (owns_below b (Nat.le_refl _) OG.out)
  replace HB := hid (HB.out.trans (b.mono HB.out.size))
  clear b
  go_wp2_with fail
  refine (toByteS_any cap HA.out (by omega)).mono ?_
  rintro e w7 ⟨rfl, o, b⟩
  replace HA := hid (HA.out.below b (Nat.le_refl _))
  replace HQ := hid (HQ.out.below b (Nat.le_refl _))
  replace HX := hid (HX.out.below b (Nat.le_refl _))
  replace OX := hid (owns_below b (Nat.le_refl _) OX.out)
  replace HG := hid (HG.out.below b (Nat.le_refl _))
  replace OG := hid (owns_below b (Nat.le_refl _) OG.out)
  replace HB := hid (HB.out.trans (b.mono HB.out.size))
  obtain ⟨_, _, e1, p, _⟩ := Reads.own o bd
  obtain ⟨rfl, _, rfl⟩ := Value.slice.inj e1
  have P := hid p
  clear o b e1 p
  go_wp2_with fail
  refine (eqByteS_any n n HX.out P.out (by omega)).mono ?_
  rintro e w8 ⟨rfl, s⟩
  have b := s.below w7.heap.size
  clear s
  replace HA := hid (HA.out.below b (Nat.le_refl _))
  replace HQ := hid (HQ.out.below b (Nat.le_refl _))
  replace HX := hid (HX.out.below b (Nat.le_refl _))
  replace OX := hid (owns_below b (Nat.le_refl _) OX.out)
  replace HG := hid (HG.out.below b (Nat.le_refl _))
  replace OG := hid (owns_below b (Nat.le_refl _) OG.out)
  replace HB := hid (HB.out.trans (b.mono HB.out.size))
  clear b P
  go_wp2_with fail
  refine (markByteS_any 1 (by omega) (by omega) (by omega) OX.out).mono ?_
  rintro e w9 ⟨rfl, _, g⟩
  have g' : w8.grownBy w9 (some x) := g
  clear g
  replace HB := hid (HB.out.grown g' HB.out.size (fun k hk => by cases hk; exact NA.out))
  replace HA := hid (H.out.below HB.out (Nat.le_refl _))
  replace HQ := hid (HQ.out.other g' (by have := NQ.out; simp; omega) (reads_far18 HQ.out.reads g' D0.out (fun k hk => by cases hk; exact NX.out)))
  replace HG := hid (HG.out.other g' (by have := XT.out; have := TC.out; simp; omega) (HG.out.reads.other g' (ne_row D1.out (.inl XT.out))))
  replace OG := hid (OG.out.kept g' (ne_own D1.out (.inl XT.out)))
  clear HX OX g'
  have hk : ¬ (1 + (n : Int)) < 0 := by omega
  obtain ⟨c00, c01, c02, c03⟩ := HG.out.box
  obtain ⟨c10, c11, c12, c13⟩ := HQ.out.box
  go_wp2_with fail
  clear c00 c01 c02 c03 c10 c11 c12 c13
  refine (eqItem RK RN fi fs cap1 cap0 hfi hfs (Same.both SI.out SS.out) HG.out.reads HQ.out.reads (by omega)).mono ?_
  rintro e w10 ⟨rfl, b⟩
  replace HA := hid (HA.out.below b (Nat.le_refl _))
  replace HQ := hid (HQ.out.below b (Nat.le_refl _))
  replace HG := hid (HG.out.below b (Nat.le_refl _))
  replace OG := hid (owns_below b (Nat.le_refl _) OG.out)
  replace HB := hid (HB.out.trans (b.mono HB.out.size))
  clear b hk
  obtain ⟨c00, c01, c02, c03⟩ := HG.out.box
  go_wp2_with fail
  clear c00 c01 c02 c03
  refine (markItem RK RN fi 1 (by omega) (by omega) (by omega) OG.out).mono ?_
  rintro e w11 ⟨rfl, o, g⟩
  obtain ⟨_, _, e1, r, _⟩ := Reads.own o (marks_bd 1 RZ.length)
  obtain ⟨rfl, _, rfl⟩ := Value.slice.inj e1
  replace HB := hid (HB.out.grown g HB.out.size (fun k hk => Nat.le_trans TA.out (own_ge D1.out k hk)))
  replace HA := hid (H.out.below HB.out (Nat.le_refl _))
  replace HQ := hid (HQ.out.other g (ne_blk D1.out (.inl QT.out)) (reads_far18 HQ.out.reads g D0.out (fun k hk => Nat.le_trans NT.out (own_ge D1.out k hk))))
  replace HG := hid (HG.out.other g (ne_blk D1.out (.inr (Nat.le_refl _))) r)
  clear OG o g e1 r
  have hk : ¬ (1 + (RZ.length : Int)) < 0 := by omega
  obtain ⟨c00, c01, c02, c03⟩ := HG.out.box
  go_wp2_with fail
  clear c00 c01 c02 c03
  refine (heldItem RK RN fi cap1 1 HG.out.reads (by omega) (by omega) (by omega)).mono ?_
  rintro e w12 ⟨rfl, b⟩
  replace HA := hid (HA.out.below b (Nat.le_refl _))
  replace HQ := hid (HQ.out.below b (Nat.le_refl _))
  replace HG := hid (HG.out.below b (Nat.le_refl _))
  replace HB := hid (HB.out.trans (b.mono HB.out.size))
  clear b
  go_wp2_with fail
  refine (toByteS_any cap HA.out (by omega)).mono ?_
  rintro e w13 ⟨rfl, o, b⟩
  replace HA := hid (HA.out.below b (Nat.le_refl _))
  replace HQ := hid (HQ.out.below b (Nat.le_refl _))
  replace HG := hid (HG.out.below b (Nat.le_refl _))
  replace HB := hid (HB.out.trans (b.mono HB.out.size))
  obtain ⟨_, _, e1, p, _⟩ := Reads.own o bd
  obtain ⟨rfl, _, rfl⟩ := Value.slice.inj e1
  have P := hid p
  clear o b e1 p
  go_wp2_with fail
  refine (impl_ItemRead n P.out (by omega) (HPw.out.below HB.out (Nat.le_refl _)) HR.out).mono ?_
  rintro e w14 ⟨fh, v, rfl, hfh, SH, o, b⟩
  obtain ⟨ad2, cap2, rfl, q, d2⟩ := Reads.own o bdR
  replace HA := hid (HA.out.below b (Nat.le_refl _))
  replace HQ := hid (HQ.out.below b (Nat.le_refl _))
  replace HG := hid (HG.out.below b (Nat.le_refl _))
  replace HB := hid (HB.out.trans (b.mono HB.out.size))
  clear P d2
  have hsh := fun w a m => run_store Tryd.prog w a (.float .f64 fh) m rfl
  have Q := hid q
  clear o b q
  obtain ⟨c00, c01, c02, c03⟩ := (HQ.out.alloc (.cells #[.int .i64 RK, .int .i64 RN, .float .f64 fh, .slice ad2 RZ.length cap2] 28)).box
  go_wp2_with fail
  clear c00 c01 c02 c03
  have HH := hid (Arg.new RK RN fh cap2 Q.out 28 w14.heap.size rfl)
  replace HA := hid (HA.out.alloc (.cells #[.int .i64 RK, .int .i64 RN, .float .f64 fh, .slice ad2 RZ.length cap2] 28))
  replace HQ := hid (HQ.out.alloc (.cells #[.int .i64 RK, .int .i64 RN, .float .f64 fh, .slice ad2 RZ.length cap2] 28))
  replace HG := hid (HG.out.alloc (.cells #[.int .i64 RK, .int .i64 RN, .float .f64 fh, .slice ad2 RZ.length cap2] 28))
  replace HB := hid (HB.out.trans ((Below.alloc1 w14 (.cells #[.int .i64 RK, .int .i64 RN, .float .f64 fh, .slice ad2 RZ.length cap2] 28)).mono HB.out.size))
  generalize w14.alloc (.cells #[.int .i64 RK, .int .i64 RN, .float .f64 fh, .slice ad2 RZ.length cap2] 28) = t3 at *
  generalize w14.heap.size = C3 at *
  clear Q
  refine (eqItem RK RN fh fs cap2 cap0 hfh hfs (Same.both SH.out SS.out) HH.out.reads HQ.out.reads (by omega)).mono ?_
  rintro e w15 ⟨rfl, b⟩
  replace HA := hid (HA.out.below b (Nat.le_refl _))
  replace HQ := hid (HQ.out.below b (Nat.le_refl _))
  replace HG := hid (HG.out.below b (Nat.le_refl _))
  replace HB := hid (HB.out.trans (b.mono HB.out.size))
  clear b
  obtain ⟨c00, c01, c02, c03⟩ := HG.out.box
  go_wp2_with fail
  clear c00 c01 c02 c03
  refine (heldItem RK RN fi cap1 1 HG.out.reads (by omega) (by omega) (by omega)).mono ?_
  rintro e w16 ⟨rfl, b⟩
  replace HA := hid (HA.out.below b (Nat.le_refl _))
  replace HQ := hid (HQ.out.below b (Nat.le_refl _))
  replace HG := hid (HG.out.below b (Nat.le_refl _))
  replace HB := hid (HB.out.trans (b.mono HB.out.size))
  clear b
  go_wp2_with fail
  go_ret
  exact ⟨rfl, HB.out⟩
end Go.Proofs.YtoppccfgcccijaaDoor
