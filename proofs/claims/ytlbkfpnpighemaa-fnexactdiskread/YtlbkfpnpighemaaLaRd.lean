/- FnExactDiskRead's walk. -/
import Derived.Test.YtlbkfpnpighemaaDt3
import Derived.Test.YtlbkfpnpighemaaDe
import Derived.Test.YtlbkfpnpighemaaDh
import Derived.Test.YtlbkfpnpighemaaDa
import Derived.Test.YtlbkfpnpighemaaSm
import Derived.Test.YtlbkfpnpighemaaDd
import Derived.Deep.RegionHeld3
namespace Go.Proofs.Ytlbkfpnpighemaa
open Go.RowKit

set_option maxRecDepth 100000 in
set_option maxHeartbeats 12800000 in
theorem exactDiskRead {aS aW : Option Addr} {nS nW : Nat} (cS cW : Nat) {ss : List (List Int)} {ws : List (Int × List Int)} (F : Int) (D : Bool) (at' : Int) {w : World} (h : ReadsD w aS aW ss ws) (lS : ss.length = nS) (lW : ws.length = nW) (hS : nS ≤ maxLen) (hW : nW ≤ maxLen) :
    Calls Try.prog 6 #[.agg #[.slice aS nS cS, .slice aW nW cW, .int .i64 F, .bool D], .int .i64 at'] w fun e w' => e = .returned (.bool true) ∧ Below w.heap.size w w' := by
  unfold maxLen at hS hW
  have HBD := hid h
  have HA0 := hid h
  have HA := hid (ArgD.new (nS := nS) (nW := nW) cS cW F D h 43 w.heap.size rfl)
  have HB := hid (Below.alloc1 w (.cells #[.slice aS nS cS, .slice aW nW cW, .int .i64 F, .bool D] 43))
  go_enter Try.func6, Try.ntmps6
  go_wp2_with fail
  refine (szDisk cS cW F D HA.out.reads lS lW (by omega) (by omega)).mono ?_
  rintro e w1 ⟨rfl, b⟩
  replace HA := hid (HA.out.below b (Nat.le_refl _))
  replace HB := hid (HB.out.trans (b.mono HB.out.size))
  clear b
  by_cases hbig : (1048576 : Int) < szOf ss ws
  · rw [show lft 1048576 (szOf ss ws) = -1 by unfold lft; rw [if_pos hbig]]
    go_wp2_with fail
    go_ret
    exact ⟨rfl, HB.out⟩
  obtain ⟨L, hL⟩ : ∃ L : Int, (1048576 : Int) - szOf ss ws = L := ⟨_, rfl⟩
  rw [show lft 1048576 (szOf ss ws) = L by unfold lft; rw [if_neg hbig, hL]]
  have hq : ¬ L < 0 := by omega
  obtain ⟨b1, b2, b3, b4, b5, b6⟩ := szOf_S (show szOf ss ws ≤ 1048576 by omega)
  have HS5 := hid (fun i => Nat.le_trans (b5 i) (show 1048576 ≤ 2097152 by omega))
  have HS6 := hid (fun i => Nat.le_trans (b6 i) (show 1048576 ≤ 2097152 by omega))
  have hnS : nS ≤ 1048576 := by omega
  have hnW : nW ≤ 1048576 := by omega
  have HT3 := hid b3
  have HT4 := hid (show tw ws ≤ 2097152 by unfold tw; omega)
  clear hbig hL b1 b2 b3 b4 b5 b6 h
  obtain ⟨RZ, ok, hR⟩ : ∃ (RZ : List Int) (ok : Bool), readR ⟨ss, ws, F, D⟩ at' = (RZ, ok) := ⟨_, _, rfl⟩
  obtain ⟨r1, bdR⟩ := readR_bd hR HBD.out
  have HR := hid hR
  have hok1 : (ok != ok) = false := by cases ok <;> rfl
  obtain ⟨nZ, lnZ⟩ : ∃ m, RZ.length = m := ⟨_, rfl⟩
  have hnZ : nZ ≤ 64 := by omega
  have LZ := hid lnZ
  clear hR lnZ
  obtain ⟨y00, y01, y02, y03⟩ := HA.out.box
  go_wp2_with fail
  clear y00 y01 y02 y03
  clear hq
  refine (toDisk cS cW F D HA.out.reads lS lW (by omega) (by omega) HS5.out HS6.out).mono ?_
  rintro e w2 ⟨gS, gW, rfl, o, b⟩
  replace HA := hid (HA.out.below b (Nat.le_refl _))
  replace HB := hid (HB.out.trans (b.mono HB.out.size))
  have P := hid o.rd
  clear o b
  go_wp2_with fail
  have LQ := hid (show w.heap.size < w2.heap.size from HA.out.lt)
  refine (spec_Read nS nW at' P.out lS lW HR.out).mono ?_
  rintro e w3 ⟨v, rfl, o, b⟩
  replace HA := hid (HA.out.below b (Nat.le_refl _))
  replace HB := hid (HB.out.trans (b.mono HB.out.size))
  clear P
  obtain ⟨ad0, cap0, rfl, q, d0⟩ := Reads.own o bdR
  have HQ := hid q
  have D0 := hid d0
  have LQ1 := hid (show w2.heap.size ≤ w3.heap.size from b.size)
  clear o b q d0
  obtain ⟨y00, y01, y02, y03⟩ := HA.out.box
  go_wp2_with fail
  clear y00 y01 y02 y03
  generalize w2.heap.size = L0 at *
  obtain ⟨S0, eS⟩ : ∃ S0, w3.heap.size = S0 := ⟨_, rfl⟩
  have HL : Hid (S0 ≤ w3.heap.size) := hid (by omega)
  rw [eS] at D0
  clear eS
  have QX := hid (show S0 ≤ w3.heap.size from HL.out)
  have AX := hid (show w.heap.size < w3.heap.size from HA.out.lt)
  refine (toDisk cS cW F D HA.out.reads lS lW (by omega) (by omega) HS5.out HS6.out).mono ?_
  rintro e w4 ⟨xS, xW, rfl, o, b⟩
  replace HA := hid (HA.out.below b (Nat.le_refl _))
  replace HQ := hid (HQ.out.below b (Nat.le_refl _))
  replace HL := hid (Nat.le_trans HL.out b.size)
  replace HB := hid (HB.out.trans (b.mono HB.out.size))
  have P := hid o
  have LXX := hid b.size
  clear o b
  go_wp2_with fail
  have HX := hid (OwnB.new (nS := nS) (cS := nS) (nW := nW) (cW := nW) F D P.out 36 w4.heap.size rfl)
  replace HA := hid (HA.out.alloc (.cells #[.slice (some ⟨xS, 0, none⟩) nS nS, .slice (some ⟨xW, 0, none⟩) nW nW, .int .i64 F, .bool D] 36))
  replace HQ := hid (HQ.out.alloc (.cells #[.slice (some ⟨xS, 0, none⟩) nS nS, .slice (some ⟨xW, 0, none⟩) nW nW, .int .i64 F, .bool D] 36))
  replace HL := hid (Nat.le_trans HL.out (Below.alloc1 w4 (.cells #[.slice (some ⟨xS, 0, none⟩) nS nS, .slice (some ⟨xW, 0, none⟩) nW nW, .int .i64 F, .bool D] 36)).size)
  replace HB := hid (HB.out.trans ((Below.alloc1 w4 (.cells #[.slice (some ⟨xS, 0, none⟩) nS nS, .slice (some ⟨xW, 0, none⟩) nW nW, .int .i64 F, .bool D] 36)).mono HB.out.size))
  generalize w4.alloc (.cells #[.slice (some ⟨xS, 0, none⟩) nS nS, .slice (some ⟨xW, 0, none⟩) nW nW, .int .i64 F, .bool D] 36) = t1 at *
  generalize w4.heap.size = GX at *
  generalize w3.heap.size = LX at *
  clear P
  have AX1 := hid (Nat.lt_of_lt_of_le AX.out LXX.out)
  have XG := hid (show GX < t1.heap.size from HX.out.lt)
  have AG := hid (show w.heap.size < t1.heap.size from HA.out.lt)
  have QG := hid (show S0 ≤ t1.heap.size from HL.out)
  refine (impl_Read nS nW at' HX.out.reads lS lW HR.out).mono ?_
  rintro e w5 ⟨v, rfl, o, b⟩
  replace HA := hid (HA.out.below b (Nat.le_refl _))
  replace HQ := hid (HQ.out.below b (Nat.le_refl _))
  replace HL := hid (Nat.le_trans HL.out b.size)
  replace HX := hid (HX.out.below b (Nat.le_refl _))
  replace HB := hid (HB.out.trans (b.mono HB.out.size))
  obtain ⟨ad1, cap1, rfl, q, d1⟩ := Reads.own o bdR
  have HG := hid q
  have D1 := hid d1
  have OG := hid o
  have TG := hid b.size
  clear o b q d1 HL
  generalize t1.heap.size = T at *
  go_wp2_with fail
  refine (eqByteS_any cap1 cap0 HG.out HQ.out (by omega)).mono ?_
  rintro e w6 ⟨rfl, s⟩
  have b := s.below w5.heap.size
  clear s
  replace HA := hid (HA.out.below b (Nat.le_refl _))
  replace HQ := hid (HQ.out.below b (Nat.le_refl _))
  replace HX := hid (HX.out.below b (Nat.le_refl _))
  replace HG := hid (HG.out.below b (Nat.le_refl _))
  replace OG := hid (owns_below b (Nat.le_refl _) OG.out)
  replace HB := hid (HB.out.trans (b.mono HB.out.size))
  clear b
  obtain ⟨c0, c1, c2, c3⟩ := HA.out.box
  obtain ⟨d0, d1, d2, d3⟩ := HX.out.box
  go_wp2_with fail
  go_region_held3 (fun W => W.cell? ⟨w.heap.size, 0, none⟩ = some (.slice aS nS cS) ∧ W.cell? ⟨w.heap.size, 1, none⟩ = some (.slice aW nW cW) ∧ W.cell? ⟨w.heap.size, 2, none⟩ = some (.int .i64 F) ∧ W.cell? ⟨w.heap.size, 3, none⟩ = some (.bool D) ∧ W.cell? ⟨GX, 0, none⟩ = some (.slice (some ⟨xS, 0, none⟩) nS nS) ∧ W.cell? ⟨GX, 1, none⟩ = some (.slice (some ⟨xW, 0, none⟩) nW nW) ∧ W.cell? ⟨GX, 2, none⟩ = some (.int .i64 F) ∧ W.cell? ⟨GX, 3, none⟩ = some (.bool D))
    (first | exact ⟨m0, m1, m2, m3, q0, q1, q2, q3⟩ | exact ⟨k0, k1, k2, k3, l0, l1, l2, l3⟩ | exact ⟨by simpa using c0, by simpa using c1, by simpa using c2, by simpa using c3, by simpa using d0, by simpa using d1, by simpa using d2, by simpa using d3⟩)
    (first
    | (go_at_call 17; refine (eqDisk nS nW nS nW F D JHX.out.reads JP.out lS lW (by omega) (by omega) HS5.out HS6.out).mono ?_; rintro e w7 ⟨rfl, b⟩; have LHA := hid (JHA.out.below b (Nat.le_refl _)); have LHQ := hid (JHQ.out.below b (Nat.le_refl _)); have LHX := hid (JHX.out.below b (Nat.le_refl _)); have LHG := hid (JHG.out.below b (Nat.le_refl _)); have LOG := hid (owns_below b (Nat.le_refl _) JOG.out); have LB := hid (JB.out.trans (b.mono JB.out.size)); clear b; obtain ⟨m0, m1, m2, m3⟩ := LHA.out.box; obtain ⟨q0, q1, q2, q3⟩ := LHX.out.box)
    | (go_at_call 22; refine (toDisk cS cW F D (HA.out.drewN _).reads lS lW (by omega) (by omega) HS5.out HS6.out).mono ?_; rintro e w8 ⟨yS, yW, rfl, o, b⟩; have b0 := Below.trans (Below.drewN (B := w6.heap.size) w6 _) (b.mono (Nat.le_refl _)); have JHA := hid (HA.out.below b0 (Nat.le_refl _)); have JHQ := hid (HQ.out.below b0 (Nat.le_refl _)); have JHX := hid (HX.out.below b0 (Nat.le_refl _)); have JHG := hid (HG.out.below b0 (Nat.le_refl _)); have JOG := hid (owns_below b0 (Nat.le_refl _) OG.out); have JB := hid (HB.out.trans (b0.mono HB.out.size)); have JP := hid o.rd; clear o b b0; obtain ⟨k0, k1, k2, k3⟩ := JHA.out.box; obtain ⟨l0, l1, l2, l3⟩ := JHX.out.box))
  clear c0 c1 c2 c3 d0 d1 d2 d3 k0 k1 k2 k3 l0 l1 l2 l3 m0 m1 m2 m3 q0 q1 q2 q3 JP JB HB JHA HA JHQ HQ JHX HX JHG HG JOG OG
  have HA := LHA
  clear LHA
  have HQ := LHQ
  clear LHQ
  have HX := LHX
  clear LHX
  have HG := LHG
  clear LHG
  have OG := LOG
  clear LOG
  have HB := LB
  clear LB
  obtain ⟨y00, y01, y02, y03⟩ := HX.out.box
  go_wp2_with fail
  clear y00 y01 y02 y03
  refine (markDisk nS nW F D 1 HX.out.own (Nat.le_of_lt HX.out.lt) lS lW (by omega) (by omega) (by have := HT3.out; omega) HT4.out (by omega) (by omega)).mono ?_
  rintro e w9 ⟨rfl, _, g⟩
  replace HB := hid (HB.out.trans ((g.below (Nat.le_trans LXX.out (Nat.le_of_lt HX.out.lt))).mono (Nat.le_of_lt AX.out)))
  replace HA := hid (HA.out.within g (.inl AX.out) (HA0.out.below HB.out (Nat.le_refl _)))
  replace HQ := hid (HQ.out.within g (in_rng D0.out (.inl QX.out)))
  replace HG := hid (HG.out.within g (in_rng D1.out (.inr (Nat.le_of_lt XG.out))))
  replace OG := hid (owns_within g OG.out (own_rng D1.out (.inr (Nat.le_of_lt XG.out))))
  clear HX g
  have hk : ¬ (1 + (tot ss : Int) + (tw ws : Int)) < 0 := by omega
  go_wp2_with fail
  refine (eqByteS_any cap1 cap0 HG.out HQ.out (by omega)).mono ?_
  rintro e w10 ⟨rfl, s⟩
  have b := s.below w9.heap.size
  clear s
  replace HA := hid (HA.out.below b (Nat.le_refl _))
  replace HQ := hid (HQ.out.below b (Nat.le_refl _))
  replace HG := hid (HG.out.below b (Nat.le_refl _))
  replace OG := hid (owns_below b (Nat.le_refl _) OG.out)
  replace HB := hid (HB.out.trans (b.mono HB.out.size))
  clear b
  clear hk
  go_wp2_with fail
  refine (markByteS_any 1 (by omega) (by omega) (by omega) OG.out).mono ?_
  rintro e w11 ⟨rfl, o, g⟩
  obtain ⟨_, _, e1, r, _⟩ := Reads.own o (marks_bd 1 RZ.length)
  obtain ⟨rfl, _, rfl⟩ := Value.slice.inj e1
  replace HB := hid (HB.out.grown g HB.out.size (fun k hk => Nat.le_trans (Nat.le_of_lt AG.out) (own_ge D1.out k hk)))
  replace HA := hid (HA.out.grown g (ne_blk D1.out (.inl AG.out)) (HA0.out.below HB.out (Nat.le_refl _)))
  replace HQ := hid (HQ.out.other g (apart_of (B := T) (by rcases D0.out with h | ⟨g, h, h1, h2⟩; exact .inl h; exact .inr ⟨g, h, h1, Nat.lt_of_lt_of_le h2 QG.out⟩) D1.out))
  replace HG := hid r
  clear OG o g e1 r
  have hk : ¬ (1 + (RZ.length : Int)) < 0 := by omega
  have hk5 : (1 + (RZ.length : Int) != 1 + (RZ.length : Int)) = false := by simp
  go_wp2_with fail
  refine (heldByteS_any cap1 1 HG.out (by omega) (by omega) (by omega)).mono ?_
  rintro e w12 ⟨rfl, rfl⟩
  obtain ⟨y00, y01, y02, y03⟩ := HA.out.box
  go_wp2_with fail
  clear y00 y01 y02 y03
  refine (toDisk cS cW F D HA.out.reads lS lW (by omega) (by omega) HS5.out HS6.out).mono ?_
  rintro e w13 ⟨zS, zW, rfl, o, b⟩
  replace HA := hid (HA.out.below b (Nat.le_refl _))
  replace HQ := hid (HQ.out.below b (Nat.le_refl _))
  replace HG := hid (HG.out.below b (Nat.le_refl _))
  replace HB := hid (HB.out.trans (b.mono HB.out.size))
  have P := hid o.rd
  clear o b
  go_wp2_with fail
  refine (impl_Read nS nW at' P.out lS lW HR.out).mono ?_
  rintro e w14 ⟨v, rfl, o, b⟩
  replace HA := hid (HA.out.below b (Nat.le_refl _))
  replace HQ := hid (HQ.out.below b (Nat.le_refl _))
  replace HG := hid (HG.out.below b (Nat.le_refl _))
  replace HB := hid (HB.out.trans (b.mono HB.out.size))
  clear P
  obtain ⟨ad2, cap2, rfl, q, d2⟩ := Reads.own o bdR
  have HH := hid q
  clear o b q d2
  go_wp2_with fail
  refine (eqByteS_any cap2 cap0 HH.out HQ.out (by omega)).mono ?_
  rintro e w15 ⟨rfl, s⟩
  have b := s.below w14.heap.size
  clear s
  replace HA := hid (HA.out.below b (Nat.le_refl _))
  replace HQ := hid (HQ.out.below b (Nat.le_refl _))
  replace HG := hid (HG.out.below b (Nat.le_refl _))
  replace HB := hid (HB.out.trans (b.mono HB.out.size))
  clear b
  go_wp2_with fail
  refine (heldByteS_any cap1 1 HG.out (by omega) (by omega) (by omega)).mono ?_
  rintro e w16 ⟨rfl, rfl⟩
  go_wp2_with fail
  go_ret
  exact ⟨rfl, HB.out⟩
end Go.Proofs.Ytlbkfpnpighemaa
