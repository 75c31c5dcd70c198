/- FnExactItemText's walk. -/
import Derived.Test.YtoppccfgcccijaaDoorYe18
import Derived.Test.YtoppccfgcccijaaDoorNr
import Derived.Test.YtoppccfgcccijaaDoorMt
import Derived.Deep.RegionHeld3
namespace Go.Proofs.YtoppccfgcccijaaDoor
open Go.RowKit

theorem Reads.txb {w : World} {base : Nat} {v : Value} {zs : List Int} (h : TxB base w v zs) (hbd : ∀ i, 0 ≤ zs.getD i 0 ∧ zs.getD i 0 ≤ 255) :
    ∃ ad cap, v = .slice ad zs.length cap ∧ Reads w ad zs.length zs ∧ (ad = none ∨ ∃ g, ad = some ⟨g, 0, none⟩ ∧ base ≤ g ∧ g < w.heap.size) := by
  rcases h with ⟨rfl, rfl⟩ | h
  · exact ⟨none, 0, rfl, ⟨rfl, .inl rfl, hbd⟩, .inl rfl⟩
  · obtain ⟨g, c, rfl, _, _, _, hb, hg, hc⟩ := h.ex
    refine ⟨_, c, rfl, ⟨rfl, .inr ⟨g, 0, rfl, fun i hi => ?_⟩, hbd⟩, .inr ⟨g, rfl, hb, hg⟩⟩
    have h1 := hc i (.int .u8 (zs.getD i 0)) (by simp [bys, List.getD, List.getElem?_eq_getElem hi])
    rw [show ((⟨g, 0, none⟩ : Addr).add i) = ⟨g, 0 + i, none⟩ by unfold Addr.add; split <;> simp_all] at h1
    exact h1
theorem txtI_bound18 (K N : Int) (f : Nat) (zs : List Int) : (txtI K N f zs).length ≤ 2097152 := by
  by_cases hk : okI K N f zs.length = true
  · rcases txtI_head hk with ⟨_, e⟩ | ⟨_, e⟩ | ⟨_, e⟩ | ⟨_, e⟩ <;> rw [e]
    · rw [List.length_cons]; have := decI_len N; omega
    · rw [List.length_cons, hexB_len, hi8_length]; omega
    · rw [List.length_cons, hexB_len]
      have hK := of_decide_eq_true (show decide (0 ≤ K ∧ K ≤ 3 ∧ zs.length ≤ 40 ∧ (K = 1 ∨ N = 0) ∧ (K = 2 ∨ f = 0) ∧ (K = 3 ∨ zs.length = 0)) = true from hk)
      omega
    · simp
  · rw [txtI_bad18 hk]; simp

set_option maxRecDepth 100000 in
set_option maxHeartbeats 12800000 in
theorem exactItemText (K N : Int) (f : Nat) {ad : Option Addr} {n : Nat} (cap : Nat) {zs : List Int} {w : World} (h : Reads w ad n zs) (ht : PowT w) (hm : n ≤ maxLen) (hf : f < 18446744073709551616) (hN : -9223372036854775808 ≤ N ∧ N ≤ 9223372036854775807) :
    Calls Tryd.prog 3 #[.agg #[.int .i64 K, .int .i64 N, .float .f64 f, .slice ad n cap]] w fun e w' => e = .returned (.bool true) ∧ Below w.heap.size w w' := by
  unfold maxLen at hm
  obtain ⟨hN0, hN1⟩ := hN
  have HN0 := hid hN0
  have HN1 := hid hN1
  have HPw := hid ht
  clear hN0 hN1 ht
  have bd := h.bd
  have H := hid h
  have hst := fun w a m => run_store Tryd.prog w a (.float .f64 f) m rfl
  have HA := hid (Arg.new K N f cap h 25 w.heap.size rfl)
  have HB := hid (Below.alloc1 w (.cells #[.int .i64 K, .int .i64 N, .float .f64 f, .slice ad n cap] 25))
  go_enter Tryd.func3, Tryd.ntmps3
  go_wp2_with fail
  refine (szItem K N f ad n cap 1048576 (by omega) (by omega) (by omega) _).mono ?_
  rintro e w1 ⟨rfl, b⟩
  replace HA := hid (HA.out.below b (Nat.le_refl _))
  replace HB := hid (HB.out.trans (b.mono HB.out.size))
  clear b
  by_cases hbig : (1048576 : Int) < n
  · rw [if_pos hbig]
    go_wp2_with fail
    go_ret
    exact ⟨rfl, HB.out⟩
  rw [if_neg hbig]
  have hq : ¬ (1048576 : Int) - n < 0 := by omega
  have hn : n ≤ 1048576 := by omega
  clear hbig
  obtain ⟨RZ, hR⟩ : ∃ (RZ : List Int), txtI K N f zs = RZ := ⟨_, rfl⟩
  have bdR : ∀ i, 0 ≤ RZ.getD i 0 ∧ RZ.getD i 0 ≤ 255 := by rw [← hR]; exact txtI_byte ⟨HN0.out, HN1.out⟩ bd
  have hRl : RZ.length ≤ 2097152 := by rw [← hR]; exact txtI_bound18 _ _ _ _
  have HR := hid hR
  have hR0 : 0 ≤ (RZ.length : Int) := by omega
  have hR1 : (RZ.length : Int) ≤ 2097152 := by omega
  have hn0 : 0 ≤ (n : Int) := by omega
  clear hR h
  obtain ⟨c00, c01, c02, c03⟩ := HA.out.box
  go_wp2_with fail
  clear c00 c01 c02 c03
  clear hq
  refine (toItem K N f cap HA.out.reads (by omega)).mono ?_
  rintro e w2 ⟨x, rfl, o, b⟩
  replace HA := hid (HA.out.below b (Nat.le_refl _))
  replace HB := hid (HB.out.trans (b.mono HB.out.size))
  obtain ⟨_, _, e1, p, _⟩ := Reads.own o bd
  obtain ⟨rfl, _, rfl⟩ := Value.slice.inj e1
  have P := hid p
  clear o b e1 p
  go_wp2_with fail
  refine (spec_ItemText K N f n P.out (by omega) ⟨HN0.out, HN1.out⟩ hf).mono ?_
  rintro e w3 ⟨v, rfl, o, b⟩
  rw [HR.out] at o
  obtain ⟨ad0, cap0, rfl, q, d0⟩ := Reads.txb o bdR
  have l1 : w.heap.size < w2.heap.size := HA.out.lt
  replace HA := hid (HA.out.below b (Nat.le_refl _))
  replace HB := hid (HB.out.trans (b.mono HB.out.size))
  clear P
  have HQ := hid q
  have D0 := hid d0
  have L1 := hid l1
  have l2 := hid b.size
  have HL : Hid (w3.heap.size ≤ w3.heap.size) := hid (Nat.le_refl _)
  clear o b q d0 l1
  obtain ⟨c00, c01, c02, c03⟩ := HA.out.box
  go_wp2_with fail
  clear c00 c01 c02 c03
  refine (toItem K N f cap HA.out.reads (by omega)).mono ?_
  rintro e w4 ⟨x, rfl, o, b⟩
  have x1 : w3.heap.size ≤ x := by exact (o.lt x rfl).1
  have x2 : x < w4.heap.size := (o.lt x rfl).2
  have NX := hid (show w3.heap.size ≤ x from Nat.le_trans HL.out x1)
  have NA := hid (show w.heap.size < x from Nat.lt_of_lt_of_le HA.out.lt x1)
  have HX2 := hid x2
  replace HA := hid (HA.out.below b (Nat.le_refl _))
  replace HQ := hid (HQ.out.below b (Nat.le_refl _))
  replace HL := hid (Nat.le_trans HL.out b.size)
  replace HB := hid (HB.out.trans (b.mono HB.out.size))
  obtain ⟨_, _, e1, p, _⟩ := Reads.own o bd
  obtain ⟨rfl, _, rfl⟩ := Value.slice.inj e1
  have P := hid p
  have OX := hid o
  clear o b e1 p x1 x2
  go_wp2_with fail
  have HX := hid (Arg.new K N f n P.out 28 w4.heap.size rfl)
  replace HA := hid (HA.out.alloc (.cells #[.int .i64 K, .int .i64 N, .float .f64 f, .slice (some ⟨x, 0, none⟩) n n] 28))
  replace HQ := hid (HQ.out.alloc (.cells #[.int .i64 K, .int .i64 N, .float .f64 f, .slice (some ⟨x, 0, none⟩) n n] 28))
  replace HL := hid (Nat.le_trans HL.out (Below.alloc1 w4 (.cells #[.int .i64 K, .int .i64 N, .float .f64 f, .slice (some ⟨x, 0, none⟩) n n] 28)).size)
  replace OX := hid (OX.out.alloc (.cells #[.int .i64 K, .int .i64 N, .float .f64 f, .slice (some ⟨x, 0, none⟩) n n] 28))
  replace HB := hid (HB.out.trans ((Below.alloc1 w4 (.cells #[.int .i64 K, .int .i64 N, .float .f64 f, .slice (some ⟨x, 0, none⟩) n n] 28)).mono HB.out.size))
  generalize w4.alloc (.cells #[.int .i64 K, .int .i64 N, .float .f64 f, .slice (some ⟨x, 0, none⟩) n n] 28) = t1 at *
  generalize w4.heap.size = GX at *
  clear P
  have XT : Hid (x < t1.heap.size) := hid (Nat.lt_trans HX2.out HX.out.lt)
  have NT := hid (show w3.heap.size ≤ t1.heap.size from HL.out)
  have TA := hid (show w.heap.size ≤ t1.heap.size from HB.out.size)
  have AT := hid (show w.heap.size < t1.heap.size from HA.out.lt)
  refine (impl_ItemText K N f n HX.out.reads (by omega) ⟨HN0.out, HN1.out⟩ hf (HPw.out.below HB.out (Nat.le_refl _))).mono ?_
  rintro e w5 ⟨v, rfl, o, b⟩
  rw [HR.out] at o
  obtain ⟨ad1, cap1, rfl, q, d1⟩ := Reads.ownF o bdR
  replace HA := hid (HA.out.below b (Nat.le_refl _))
  replace HQ := hid (HQ.out.below b (Nat.le_refl _))
  replace HL := hid (Nat.le_trans HL.out b.size)
  replace HX := hid (HX.out.below b (Nat.le_refl _))
  replace OX := hid (owns_below b (Nat.le_refl _) OX.out)
  replace HB := hid (HB.out.trans (b.mono HB.out.size))
  clear HL
  have D1 := hid d1
  have OG := hid o
  have TC := hid b.size
  have HG := hid q
  clear o b q d1
  generalize t1.heap.size = T at *
  go_wp2_with fail
  refine (eqByteS_any cap1 cap0 HG.out HQ.out (by omega)).mono ?_
  rintro e w6 ⟨rfl, s⟩
  have b := s.below w5.heap.size
  clear s
  replace HA := hid (HA.out.below b (Nat.le_refl _))
  replace HQ := hid (HQ.out.below b (Nat.le_refl _))
  replace HX := hid (HX.out.below b (Nat.le_refl _))
  replace OX := hid (owns_below b (Nat.le_refl _) OX.out)
  replace HG := hid (HG.out.below b (Nat.le_refl _))
  replace OG := hid (OG.out.below b (Nat.le_refl _))
  replace HB := hid (HB.out.trans (b.mono HB.out.size))
  clear b
  obtain ⟨c0, c1, c2, c3⟩ := HA.out.box
  obtain ⟨d0, d1, d2, d3⟩ := HX.out.box
  go_wp2_with fail
  go_region_held3 (fun W => W.cell? ⟨w.heap.size, 0, none⟩ = some (.int .i64 K) ∧ W.cell? ⟨w.heap.size, 1, none⟩ = some (.int .i64 N) ∧ W.cell? ⟨w.heap.size, 2, none⟩ = some (.float .f64 f) ∧ W.cell? ⟨w.heap.size, 3, none⟩ = some (.slice ad n cap) ∧ W.cell? ⟨GX, 0, none⟩ = some (.int .i64 K) ∧ W.cell? ⟨GX, 1, none⟩ = some (.int .i64 N) ∧ W.cell? ⟨GX, 2, none⟩ = some (.float .f64 f) ∧ W.cell? ⟨GX, 3, none⟩ = some (.slice (some ⟨x, 0, none⟩) n n)) (first | exact ⟨m0, m1, m2, m3, q0, q1, q2, q3⟩ | exact ⟨k0, k1, k2, k3, l0, l1, l2, l3⟩ | exact ⟨by simpa using c0, by simpa using c1, by simpa using c2, by simpa using c3, by simpa using d0, by simpa using d1, by simpa using d2, by simpa using d3⟩)
    (first
    | (go_at_call 11; refine (eqItem K N f f n n hf hf (Same.refl f) JHX.out.reads JP.out (by omega)).mono ?_; rintro e w7 ⟨rfl, b⟩; have LHA := hid (JHA.out.below b (Nat.le_refl _)); have LHQ := hid (JHQ.out.below b (Nat.le_refl _)); have LHX := hid (JHX.out.below b (Nat.le_refl _)); have LOX := hid (owns_below b (Nat.le_refl _) JOX.out); have LHG := hid (JHG.out.below b (Nat.le_refl _)); have LOG := hid (JOG.out.below b (Nat.le_refl _)); have LB := hid (JB.out.trans (b.mono JB.out.size)); clear b; obtain ⟨m0, m1, m2, m3⟩ := LHA.out.box; obtain ⟨q0, q1, q2, q3⟩ := LHX.out.box)
    | (go_at_call 8; refine (toItem K N f cap (HA.out.drewN _).reads (by omega)).mono ?_; rintro e u ⟨s, rfl, o, b⟩; have b0 := Below.trans (Below.drewN (B := w6.heap.size) w6 _) (b.mono (Nat.le_refl _)); have JHA := hid (HA.out.below b0 (Nat.le_refl _)); have JHQ := hid (HQ.out.below b0 (Nat.le_refl _)); have JHX := hid (HX.out.below b0 (Nat.le_refl _)); have JOX := hid (owns_below b0 (Nat.le_refl _) OX.out); have JHG := hid (HG.out.below b0 (Nat.le_refl _)); have JOG := hid (OG.out.below b0 (Nat.le_refl _)); have JB := hid (HB.out.trans (b0.mono HB.out.size)); obtain ⟨_, _, e9, p9, _⟩ := Reads.own o bd; obtain ⟨rfl, _, rfl⟩ := Value.slice.inj e9; have JP := hid p9; clear p9 e9 o b b0; obtain ⟨k0, k1, k2, k3⟩ := JHA.out.box; obtain ⟨l0, l1, l2, l3⟩ := JHX.out.box))
  clear c0 c1 c2 c3 d0 d1 d2 d3 k0 k1 k2 k3 l0 l1 l2 l3 m0 m1 m2 m3 q0 q1 q2 q3 JP JB HB JHA HA JHQ HQ JHX HX JOX OX JHG HG JOG OG
  have HA := LHA
  clear LHA
  have HQ := LHQ
  clear LHQ
  have HX := LHX
  clear LHX
  have OX := LOX
  clear LOX
  have HG := LHG
  clear LHG
  have OG := LOG
  clear LOG
  have HB := LB
  clear LB
  obtain ⟨c00, c01, c02, c03⟩ := HX.out.box
  go_wp2_with fail
  clear c00 c01 c02 c03
  refine (markItem K N f 1 (by omega) (by omega) (by omega) OX.out).mono ?_
  rintro e w8 ⟨rfl, _, g⟩
  have g' : w7.grownBy w8 (some x) := g
  clear g
  replace HB := hid (HB.out.grown g' HB.out.size (fun k hk => by cases hk; exact Nat.le_of_lt NA.out))
  replace HA := hid (HA.out.other g' (by have := NA.out; simp; omega) (H.out.below HB.out (Nat.le_refl _)))
  replace HQ := hid (HQ.out.other g' (ne_row D0.out (.inr NX.out)))
  replace HG := hid (HG.out.other g' (ne_row D1.out (.inl XT.out)))
  replace OG := hid (OG.out.kept g' (ne_own D1.out (.inl XT.out)))
  clear HX OX g'
  have hk : ¬ (1 + (n : Int)) < 0 := by omega
  go_wp2_with fail
  refine (eqByteS_any cap1 cap0 HG.out HQ.out (by omega)).mono ?_
  rintro e w9 ⟨rfl, s⟩
  have b := s.below w8.heap.size
  clear s
  replace HA := hid (HA.out.below b (Nat.le_refl _))
  replace HQ := hid (HQ.out.below b (Nat.le_refl _))
  replace HG := hid (HG.out.below b (Nat.le_refl _))
  replace OG := hid (OG.out.below b (Nat.le_refl _))
  replace HB := hid (HB.out.trans (b.mono HB.out.size))
  clear b hk
  go_wp2_with fail
  refine (markByteS_F 1 (by omega) (by omega) (by omega) OG.out).mono ?_
  rintro e w10 ⟨rfl, o, g⟩
  obtain ⟨_, _, e1, r, _⟩ := Reads.ownF o (marks_bd 1 RZ.length)
  obtain ⟨rfl, _, rfl⟩ := Value.slice.inj e1
  replace HB := hid (HB.out.grown g HB.out.size (fun k hk => Nat.le_trans TA.out (own_ge D1.out k hk)))
  replace HA := hid (HA.out.other g (ne_blk D1.out (.inl AT.out)) (H.out.below HB.out (Nat.le_refl _)))
  replace HQ := hid (HQ.out.other g (apart_of (B := T) (by rcases D0.out with h | ⟨g, h, h1, h2⟩; exact .inl h; exact .inr ⟨g, h, h1, Nat.lt_of_lt_of_le h2 NT.out⟩) D1.out))
  replace HG := hid r
  clear OG o g e1 r
  have hk : ¬ (1 + (RZ.length : Int)) < 0 := by omega
  go_wp2_with fail
  refine (heldByteS_any cap1 1 HG.out (by omega) (by omega) (by omega)).mono ?_
  rintro e w11 ⟨rfl, rfl⟩
  obtain ⟨c00, c01, c02, c03⟩ := HA.out.box
  go_wp2_with fail
  clear c00 c01 c02 c03
  refine (toItem K N f cap HA.out.reads (by omega)).mono ?_
  rintro e w12 ⟨x, rfl, o, b⟩
  replace HA := hid (HA.out.below b (Nat.le_refl _))
  replace HQ := hid (HQ.out.below b (Nat.le_refl _))
  replace HG := hid (HG.out.below b (Nat.le_refl _))
  replace HB := hid (HB.out.trans (b.mono HB.out.size))
  obtain ⟨_, _, e1, p, _⟩ := Reads.own o bd
  obtain ⟨rfl, _, rfl⟩ := Value.slice.inj e1
  have P := hid p
  clear o b e1 p
  go_wp2_with fail
  refine (impl_ItemText K N f n P.out (by omega) ⟨HN0.out, HN1.out⟩ hf (HPw.out.below HB.out (Nat.le_refl _))).mono ?_
  rintro e w13 ⟨v, rfl, o, b⟩
  rw [HR.out] at o
  obtain ⟨ad2, cap2, rfl, q, d2⟩ := Reads.ownF o bdR
  replace HA := hid (HA.out.below b (Nat.le_refl _))
  replace HQ := hid (HQ.out.below b (Nat.le_refl _))
  replace HG := hid (HG.out.below b (Nat.le_refl _))
  replace HB := hid (HB.out.trans (b.mono HB.out.size))
  clear P d2
  have HH := hid q
  clear o b q
  go_wp2_with fail
  refine (eqByteS_any cap2 cap0 HH.out HQ.out (by omega)).mono ?_
  rintro e w14 ⟨rfl, s⟩
  have b := s.below w13.heap.size
  clear s
  replace HA := hid (HA.out.below b (Nat.le_refl _))
  replace HQ := hid (HQ.out.below b (Nat.le_refl _))
  replace HG := hid (HG.out.below b (Nat.le_refl _))
  replace HB := hid (HB.out.trans (b.mono HB.out.size))
  clear b
  go_wp2_with fail
  refine (heldByteS_any cap1 1 HG.out (by omega) (by omega) (by omega)).mono ?_
  rintro e w15 ⟨rfl, rfl⟩
  go_wp2_with fail
  go_ret
  exact ⟨rfl, HB.out⟩
end Go.Proofs.YtoppccfgcccijaaDoor
