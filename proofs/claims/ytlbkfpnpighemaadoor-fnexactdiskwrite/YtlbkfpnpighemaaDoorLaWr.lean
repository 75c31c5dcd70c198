/- FnExactDiskWrite's walk. -/
import Derived.Test.YtlbkfpnpighemaaDoorDt3
import Derived.Test.YtlbkfpnpighemaaDoorDe
import Derived.Test.YtlbkfpnpighemaaDoorDh
import Derived.Test.YtlbkfpnpighemaaDoorDa
import Derived.Test.YtlbkfpnpighemaaDoorSm
import Derived.Test.YtlbkfpnpighemaaDoorDw
import Derived.Deep.RegionHeld3
namespace Go.Proofs.YtlbkfpnpighemaaDoor
open Go.RowKit

set_option maxRecDepth 100000 in
set_option maxHeartbeats 12800000 in
theorem exactDiskWrite {aS aW : Option Addr} {nS nW : Nat} (cS cW : Nat) {ss : List (List Int)} {ws : List (Int × List Int)} (F : Int) (D : Bool) (at' : Int) {aD : Option Addr} {nD : Nat} (cD : Nat) {zs : List Int} {w : World} (h : ReadsD w aS aW ss ws) (lS : ss.length = nS) (lW : ws.length = nW) (hS : nS ≤ maxLen) (hW : nW ≤ maxLen) (hd : Reads w aD nD zs) (hD : nD ≤ maxLen) {s0 s1 : Addr} {e0 e1 : Array Value} {u0 u1 : TypeId} (hv : Sents w w.heap.size s0 s1 e0 e1 u0 u1) (hF : F ≤ 9223372036854775807) :
    Calls Tryd.prog 5 #[.agg #[.slice aS nS cS, .slice aW nW cW, .int .i64 F, .bool D], .int .i64 at', .slice aD nD cD] w fun e w' => e = .returned (.bool true) ∧ Below w.heap.size w w' := by
  unfold maxLen at hS hW hD
  have VV := hid hv
  clear hv
  have HD0 := hid hd
  clear hd
  have HA0 := hid h
  have HA := hid (ArgD.new (nS := nS) (nW := nW) cS cW F D h 47 w.heap.size rfl)
  have HB := hid (Below.alloc1 w (.cells #[.slice aS nS cS, .slice aW nW cW, .int .i64 F, .bool D] 47))
  have HD := hid (HD0.out.below HB.out (Nat.le_refl _))
  by_cases hbigD : 1048576 < nD
  · have hbigD' : (1048576 : Int) < (nD : Int) := by omega
    go_enter Tryd.func5, Tryd.ntmps5
    go_wp2_with fail
    go_ret
    exact ⟨rfl, HB.out⟩
  have hnD : nD ≤ 1048576 := by omega
  have hnD' : ¬ (1048576 : Int) < (nD : Int) := by omega
  clear hbigD
  go_enter Tryd.func5, Tryd.ntmps5
  go_wp2_with fail
  refine (szDisk cS cW F D HA.out.reads lS lW (by omega) (by omega)).mono ?_
  rintro e w1 ⟨rfl, b⟩
  replace HA := hid (HA.out.below b (Nat.le_refl _))
  replace HD := hid (HD.out.below b (Nat.le_refl _))
  replace HB := hid (HB.out.trans (b.mono HB.out.size))
  clear b
  by_cases hbig : (1048576 : Int) < szOf ss ws
  · rw [show lft 1048576 (szOf ss ws) = -1 by unfold lft; rw [if_pos hbig]]
    go_wp2_with fail
    go_ret
    exact ⟨rfl, HB.out⟩
  obtain ⟨L, hL⟩ : ∃ L : Int, (1048576 : Int) - szOf ss ws = L := ⟨_, rfl⟩
  rw [show lft 1048576 (szOf ss ws) = L by unfold lft; rw [if_neg hbig, hL]]
  have hq : ¬ L < 0 := by omega
  obtain ⟨b1, b2, b3, b4, b5, b6⟩ := szOf_S (show szOf ss ws ≤ 1048576 by omega)
  have HS5 := hid (fun i => Nat.le_trans (b5 i) (show 1048576 ≤ 2097152 by omega))
  have HS6 := hid (fun i => Nat.le_trans (b6 i) (show 1048576 ≤ 2097152 by omega))
  have hnS : nS ≤ 1048576 := by omega
  have hnW : nW ≤ 1048576 := by omega
  have HT3 := hid b3
  have HT4 := hid (show tw ws ≤ 2097152 by unfold tw; omega)
  clear hbig hL b1 b2 b3 b4 b5 b6 h
  obtain ⟨RS, RW, RF, RD, RC, hR⟩ : ∃ (RS : List (List Int)) (RW : List (Int × List Int)) (RF : Int) (RD : Bool) (RC : Int), writeD ⟨ss, ws, F, D⟩ at' zs = (⟨RS, RW, RF, RD⟩, RC) := ⟨_, _, _, _, _, rfl⟩
  obtain ⟨r1, r2, r3, r4, r5, r6⟩ := (write_small hR).bd
  have HR := hid hR
  have HR5 := hid (fun i => Nat.le_trans (r5 i) (show 64 ≤ 2097152 by omega))
  have HR6 := hid (fun i => Nat.le_trans (r6 i) (show 64 ≤ 2097152 by omega))
  obtain ⟨mS, lmS⟩ : ∃ m, RS.length = m := ⟨_, rfl⟩
  obtain ⟨mW, lmW⟩ : ∃ m, RW.length = m := ⟨_, rfl⟩
  have hmS : mS ≤ 512 := by omega
  have hmW : mW ≤ 601 := by omega
  have LS := hid lmS
  have LW := hid lmW
  clear hR r1 r2 r5 r6 lmS lmW
  have hRC : (RC != RC) = false := by simp
  obtain ⟨y00, y01, y02, y03⟩ := HA.out.box
  go_wp2_with fail
  clear y00 y01 y02 y03
  clear hq
  refine (toDisk cS cW F D HA.out.reads lS lW (by omega) (by omega) HS5.out HS6.out).mono ?_
  rintro e w2 ⟨gS, gW, rfl, o, b⟩
  replace HA := hid (HA.out.below b (Nat.le_refl _))
  replace HD := hid (HD.out.below b (Nat.le_refl _))
  replace HB := hid (HB.out.trans (b.mono HB.out.size))
  have P := hid o.rd
  clear o b
  go_wp2_with fail
  refine (toByteS_any cD HD.out (by omega)).mono ?_
  rintro e w3 ⟨rfl, o, b⟩
  replace HA := hid (HA.out.below b (Nat.le_refl _))
  replace HD := hid (HD.out.below b (Nat.le_refl _))
  replace P := hid (P.out.below b (Nat.le_refl _))
  replace HB := hid (HB.out.trans (b.mono HB.out.size))
  obtain ⟨_, _, e1, p, _⟩ := Reads.own o HD0.out.bd
  obtain ⟨rfl, _, rfl⟩ := Value.slice.inj e1
  have PX := hid p
  clear o b e1 p
  go_wp2_with fail
  have LQ := hid (show w.heap.size < w3.heap.size from HA.out.lt)
  refine (spec_Write nS nW at' P.out lS lW nD PX.out hF HR.out).mono ?_
  rintro e w4 ⟨aQ, n1, cQ, dQ, n2, eQ, l1, l2, rfl, o, b⟩
  obtain rfl : mS = n1 := LS.out.symm.trans l1
  obtain rfl : mW = n2 := LW.out.symm.trans l2
  clear l1 l2
  replace HA := hid (HA.out.below b (Nat.le_refl _))
  replace HD := hid (HD.out.below b (Nat.le_refl _))
  replace HB := hid (HB.out.trans (b.mono HB.out.size))
  clear P PX
  have P := hid o
  clear o b
  obtain ⟨y00, y01, y02, y03⟩ := (HA.out.alloc (.cells #[.slice aQ mS cQ, .slice dQ mW eQ, .int .i64 RF, .bool RD] 27)).box
  go_wp2_with fail
  clear y00 y01 y02 y03
  have HQ := hid (OwnB.new (nS := mS) (cS := cQ) (nW := mW) (cW := eQ) RF RD P.out 27 w4.heap.size rfl)
  replace HA := hid (HA.out.alloc (.cells #[.slice aQ mS cQ, .slice dQ mW eQ, .int .i64 RF, .bool RD] 27))
  replace HD := hid (HD.out.alloc (.cells #[.slice aQ mS cQ, .slice dQ mW eQ, .int .i64 RF, .bool RD] 27))
  replace HB := hid (HB.out.trans ((Below.alloc1 w4 (.cells #[.slice aQ mS cQ, .slice dQ mW eQ, .int .i64 RF, .bool RD] 27)).mono HB.out.size))
  generalize w4.alloc (.cells #[.slice aQ mS cQ, .slice dQ mW eQ, .int .i64 RF, .bool RD] 27) = t0 at *
  generalize w4.heap.size = GQ at *
  clear P
  generalize w3.heap.size = L0 at *
  have QX := hid (show GQ < t0.heap.size from HQ.out.lt)
  have AX := hid (show w.heap.size < t0.heap.size from HA.out.lt)
  refine (toDisk cS cW F D HA.out.reads lS lW (by omega) (by omega) HS5.out HS6.out).mono ?_
  rintro e w5 ⟨xS, xW, rfl, o, b⟩
  replace HA := hid (HA.out.below b (Nat.le_refl _))
  replace HD := hid (HD.out.below b (Nat.le_refl _))
  replace HQ := hid (HQ.out.below b (Nat.le_refl _))
  replace HB := hid (HB.out.trans (b.mono HB.out.size))
  have P := hid o
  have LXX := hid b.size
  clear o b
  go_wp2_with fail
  have HX := hid (OwnB.new (nS := nS) (cS := nS) (nW := nW) (cW := nW) F D P.out 27 w5.heap.size rfl)
  replace HA := hid (HA.out.alloc (.cells #[.slice (some ⟨xS, 0, none⟩) nS nS, .slice (some ⟨xW, 0, none⟩) nW nW, .int .i64 F, .bool D] 27))
  replace HD := hid (HD.out.alloc (.cells #[.slice (some ⟨xS, 0, none⟩) nS nS, .slice (some ⟨xW, 0, none⟩) nW nW, .int .i64 F, .bool D] 27))
  replace HQ := hid (HQ.out.alloc (.cells #[.slice (some ⟨xS, 0, none⟩) nS nS, .slice (some ⟨xW, 0, none⟩) nW nW, .int .i64 F, .bool D] 27))
  replace HB := hid (HB.out.trans ((Below.alloc1 w5 (.cells #[.slice (some ⟨xS, 0, none⟩) nS nS, .slice (some ⟨xW, 0, none⟩) nW nW, .int .i64 F, .bool D] 27)).mono HB.out.size))
  generalize w5.alloc (.cells #[.slice (some ⟨xS, 0, none⟩) nS nS, .slice (some ⟨xW, 0, none⟩) nW nW, .int .i64 F, .bool D] 27) = t1 at *
  generalize w5.heap.size = GX at *
  generalize t0.heap.size = LX at *
  clear P
  have AX1 := hid (Nat.lt_of_lt_of_le AX.out LXX.out)
  have XX := hid (show GX < t1.heap.size from HX.out.lt)
  refine (toByteS_any cD HD.out (by omega)).mono ?_
  rintro e w6 ⟨rfl, o, b⟩
  have X2 := hid (show t1.heap.size < w6.heap.size from (o.lt t1.heap.size rfl).2)
  replace HA := hid (HA.out.below b (Nat.le_refl _))
  replace HD := hid (HD.out.below b (Nat.le_refl _))
  replace HQ := hid (HQ.out.below b (Nat.le_refl _))
  replace HX := hid (HX.out.below b (Nat.le_refl _))
  replace HB := hid (HB.out.trans (b.mono HB.out.size))
  obtain ⟨_, _, e1, p, _⟩ := Reads.own o HD0.out.bd
  obtain ⟨rfl, _, rfl⟩ := Value.slice.inj e1
  have HY := hid p
  have OY := hid o
  clear o b e1 p
  generalize t1.heap.size = GY at *
  obtain ⟨y00, y01, y02, y03⟩ := HX.out.box
  go_wp2_with fail
  clear y00 y01 y02 y03
  have XG := hid (show GX < w6.heap.size from HX.out.lt)
  have AG := hid (show w.heap.size < w6.heap.size from HA.out.lt)
  have QG := hid (show GQ < w6.heap.size from HQ.out.lt)
  refine (impl_Write nS nW at' HX.out.reads lS lW nD HY.out hF ((VV.out.below HB.out).up HB.out.size) HR.out).mono ?_
  rintro e w7 ⟨aG, n1, cG, dG, n2, eG, l1, l2, rfl, o, b⟩
  obtain rfl : mS = n1 := LS.out.symm.trans l1
  obtain rfl : mW = n2 := LW.out.symm.trans l2
  clear l1 l2
  replace HA := hid (HA.out.below b (Nat.le_refl _))
  replace HD := hid (HD.out.below b (Nat.le_refl _))
  replace HQ := hid (HQ.out.below b (Nat.le_refl _))
  replace HX := hid (HX.out.below b (Nat.le_refl _))
  replace HY := hid (HY.out.below b (Nat.le_refl _))
  replace OY := hid (owns_below b (Nat.le_refl _) OY.out)
  replace HB := hid (HB.out.trans (b.mono HB.out.size))
  have P := hid o
  have TG := hid b.size
  clear o b
  obtain ⟨y00, y01, y02, y03⟩ := (HQ.out.alloc (.cells #[.slice aG mS cG, .slice dG mW eG, .int .i64 RF, .bool RD] 27)).box
  go_wp2_with fail
  clear y00 y01 y02 y03
  have HG := hid (OwnB.new (nS := mS) (cS := cG) (nW := mW) (cW := eG) RF RD P.out 27 w7.heap.size rfl)
  replace HA := hid (HA.out.alloc (.cells #[.slice aG mS cG, .slice dG mW eG, .int .i64 RF, .bool RD] 27))
  replace HD := hid (HD.out.alloc (.cells #[.slice aG mS cG, .slice dG mW eG, .int .i64 RF, .bool RD] 27))
  replace HQ := hid (HQ.out.alloc (.cells #[.slice aG mS cG, .slice dG mW eG, .int .i64 RF, .bool RD] 27))
  replace HX := hid (HX.out.alloc (.cells #[.slice aG mS cG, .slice dG mW eG, .int .i64 RF, .bool RD] 27))
  replace HY := hid (HY.out.alloc (.cells #[.slice aG mS cG, .slice dG mW eG, .int .i64 RF, .bool RD] 27))
  replace OY := hid (OY.out.alloc (.cells #[.slice aG mS cG, .slice dG mW eG, .int .i64 RF, .bool RD] 27))
  replace HB := hid (HB.out.trans ((Below.alloc1 w7 (.cells #[.slice aG mS cG, .slice dG mW eG, .int .i64 RF, .bool RD] 27)).mono HB.out.size))
  generalize w7.alloc (.cells #[.slice aG mS cG, .slice dG mW eG, .int .i64 RF, .bool RD] 27) = t2 at *
  generalize w7.heap.size = GG at *
  clear P
  generalize w6.heap.size = T at *
  refine (eqDisk cG eG cQ eQ RF RD HG.out.reads HQ.out.reads LS.out LW.out (by omega) (by omega) HR5.out HR6.out).mono ?_
  rintro e w8 ⟨rfl, b⟩
  replace HA := hid (HA.out.below b (Nat.le_refl _))
  replace HD := hid (HD.out.below b (Nat.le_refl _))
  replace HQ := hid (HQ.out.below b (Nat.le_refl _))
  replace HX := hid (HX.out.below b (Nat.le_refl _))
  replace HY := hid (HY.out.below b (Nat.le_refl _))
  replace OY := hid (owns_below b (Nat.le_refl _) OY.out)
  replace HG := hid (HG.out.below b (Nat.le_refl _))
  replace HB := hid (HB.out.trans (b.mono HB.out.size))
  clear b
  obtain ⟨c0, c1, c2, c3⟩ := HA.out.box
  obtain ⟨d0, d1, d2, d3⟩ := HX.out.box
  go_wp2_with fail
  go_region_held3 (fun W => W.cell? ⟨w.heap.size, 0, none⟩ = some (.slice aS nS cS) ∧ W.cell? ⟨w.heap.size, 1, none⟩ = some (.slice aW nW cW) ∧ W.cell? ⟨w.heap.size, 2, none⟩ = some (.int .i64 F) ∧ W.cell? ⟨w.heap.size, 3, none⟩ = some (.bool D) ∧ W.cell? ⟨GX, 0, none⟩ = some (.slice (some ⟨xS, 0, none⟩) nS nS) ∧ W.cell? ⟨GX, 1, none⟩ = some (.slice (some ⟨xW, 0, none⟩) nW nW) ∧ W.cell? ⟨GX, 2, none⟩ = some (.int .i64 F) ∧ W.cell? ⟨GX, 3, none⟩ = some (.bool D))
    (first | exact ⟨m0, m1, m2, m3, q0, q1, q2, q3⟩ | exact ⟨k0, k1, k2, k3, l0, l1, l2, l3⟩ | exact ⟨by simpa using c0, by simpa using c1, by simpa using c2, by simpa using c3, by simpa using d0, by simpa using d1, by simpa using d2, by simpa using d3⟩)
    (first
    | (go_at_call 23; refine (eqDisk nS nW nS nW F D JHX.out.reads JP.out lS lW (by omega) (by omega) HS5.out HS6.out).mono ?_; rintro e w9 ⟨rfl, b⟩; have LHA := hid (JHA.out.below b (Nat.le_refl _)); have LHD := hid (JHD.out.below b (Nat.le_refl _)); have LHQ := hid (JHQ.out.below b (Nat.le_refl _)); have LHX := hid (JHX.out.below b (Nat.le_refl _)); have LHY := hid (JHY.out.below b (Nat.le_refl _)); have LOY := hid (owns_below b (Nat.le_refl _) JOY.out); have LHG := hid (JHG.out.below b (Nat.le_refl _)); have LB := hid (JB.out.trans (b.mono JB.out.size)); clear b; obtain ⟨m0, m1, m2, m3⟩ := LHA.out.box; obtain ⟨q0, q1, q2, q3⟩ := LHX.out.box)
    | (go_at_call 21; refine (toDisk cS cW F D (HA.out.drewN _).reads lS lW (by omega) (by omega) HS5.out HS6.out).mono ?_; rintro e w10 ⟨yS, yW, rfl, o, b⟩; have b0 := Below.trans (Below.drewN (B := w8.heap.size) w8 _) (b.mono (Nat.le_refl _)); have JHA := hid (HA.out.below b0 (Nat.le_refl _)); have JHD := hid (HD.out.below b0 (Nat.le_refl _)); have JHQ := hid (HQ.out.below b0 (Nat.le_refl _)); have JHX := hid (HX.out.below b0 (Nat.le_refl _)); have JHY := hid (HY.out.below b0 (Nat.le_refl _)); have JOY := hid (owns_below b0 (Nat.le_refl _) OY.out); have JHG := hid (HG.out.below b0 (Nat.le_refl _)); have JB := hid (HB.out.trans (b0.mono HB.out.size)); have JP := hid o.rd; clear o b b0; obtain ⟨k0, k1, k2, k3⟩ := JHA.out.box; obtain ⟨l0, l1, l2, l3⟩ := JHX.out.box))
  clear c0 c1 c2 c3 d0 d1 d2 d3 k0 k1 k2 k3 l0 l1 l2 l3 m0 m1 m2 m3 q0 q1 q2 q3 JP JB HB JHA HA JHD HD JHQ HQ JHX HX JHY HY JOY OY JHG HG
  have HA := LHA
  clear LHA
  have HD := LHD
  clear LHD
  have HQ := LHQ
  clear LHQ
  have HX := LHX
  clear LHX
  have HY := LHY
  clear LHY
  have OY := LOY
  clear LOY
  have HG := LHG
  clear LHG
  have HB := LB
  clear LB
  go_wp2_with fail
  refine (toByteS_any cD HD.out (by omega)).mono ?_
  rintro e w11 ⟨rfl, o, b⟩
  replace HA := hid (HA.out.below b (Nat.le_refl _))
  replace HD := hid (HD.out.below b (Nat.le_refl _))
  replace HQ := hid (HQ.out.below b (Nat.le_refl _))
  replace HX := hid (HX.out.below b (Nat.le_refl _))
  replace HY := hid (HY.out.below b (Nat.le_refl _))
  replace OY := hid (owns_below b (Nat.le_refl _) OY.out)
  replace HG := hid (HG.out.below b (Nat.le_refl _))
  replace HB := hid (HB.out.trans (b.mono HB.out.size))
  obtain ⟨_, _, e1, p, _⟩ := Reads.own o HD0.out.bd
  obtain ⟨rfl, _, rfl⟩ := Value.slice.inj e1
  have PX := hid p
  clear o b e1 p
  go_wp2_with fail
  refine (eqByteS_any nD nD HY.out PX.out (by omega)).mono ?_
  rintro e w12 ⟨rfl, s⟩
  have b := s.below w11.heap.size
  clear s
  replace HA := hid (HA.out.below b (Nat.le_refl _))
  replace HD := hid (HD.out.below b (Nat.le_refl _))
  replace HQ := hid (HQ.out.below b (Nat.le_refl _))
  replace HX := hid (HX.out.below b (Nat.le_refl _))
  replace HY := hid (HY.out.below b (Nat.le_refl _))
  replace OY := hid (owns_below b (Nat.le_refl _) OY.out)
  replace HG := hid (HG.out.below b (Nat.le_refl _))
  replace HB := hid (HB.out.trans (b.mono HB.out.size))
  clear b PX
  obtain ⟨y00, y01, y02, y03⟩ := HX.out.box
  go_wp2_with fail
  clear y00 y01 y02 y03
  refine (markDisk nS nW F D 1 HX.out.own (Nat.le_of_lt HX.out.lt) lS lW (by omega) (by omega) (by have := HT3.out; omega) HT4.out (by omega) (by omega)).mono ?_
  rintro e w13 ⟨rfl, _, g⟩
  replace HB := hid (HB.out.trans ((g.below (Nat.le_trans LXX.out (Nat.le_of_lt HX.out.lt))).mono (Nat.le_of_lt AX.out)))
  replace HA := hid (HA.out.within g (.inl AX.out) (HA0.out.below HB.out (Nat.le_refl _)))
  replace HD := hid (HD0.out.below HB.out (Nat.le_refl _))
  replace HQ := hid (HQ.out.within g (.inr QX.out))
  replace HG := hid (HG.out.within g (.inl ⟨Nat.le_of_lt XG.out, Nat.le_of_lt (Nat.lt_of_lt_of_le XG.out TG.out)⟩))
  replace OY := hid (owns_within g OY.out (fun k hk => by cases hk; exact .inr (Nat.le_of_lt XX.out)))
  clear HX g HY
  have hk : ¬ (1 + (tot ss : Int) + (tw ws : Int)) < 0 := by omega
  have hk2 : (1 + (tot ss : Int) + (tw ws : Int)) ≤ 1000000000 := by have := HT3.out; have := HT4.out; omega
  have hk3 : 0 ≤ (1 + (tot ss : Int) + (tw ws : Int)) := by omega
  have hk4 : ¬ (1 + (tot ss : Int) + (tw ws : Int) + (nD : Int)) < 0 := by omega
  go_wp2_with fail
  refine (markByteS_any (1 + (tot ss : Int) + (tw ws : Int)) (by omega) (by omega) (by omega) OY.out).mono ?_
  rintro e w14 ⟨rfl, _, g⟩
  have g' : Within GY (GY + 1) w13 w14 := Within.grown g (fun k hk => by cases hk; exact ⟨Nat.le_refl _, Nat.lt_succ_self _⟩)
  replace HB := hid (HB.out.trans ((g'.below (Nat.le_of_lt (OY.out.lt GY rfl).2)).mono (Nat.le_of_lt (Nat.lt_trans AX1.out XX.out))))
  replace HA := hid (HA.out.within g' (.inl (Nat.lt_trans AX1.out XX.out)) (HA0.out.below HB.out (Nat.le_refl _)))
  replace HD := hid (HD0.out.below HB.out (Nat.le_refl _))
  replace HQ := hid (HQ.out.within g' (.inr (Nat.lt_trans (Nat.lt_of_lt_of_le QX.out LXX.out) XX.out)))
  replace HG := hid (HG.out.within g' (.inl ⟨X2.out, Nat.le_trans X2.out TG.out⟩))
  clear OY g g' hk
  obtain ⟨y00, y01, y02, y03⟩ := HG.out.box
  obtain ⟨y10, y11, y12, y13⟩ := HQ.out.box
  go_wp2_with fail
  clear y00 y01 y02 y03 y10 y11 y12 y13
  refine (eqDisk cG eG cQ eQ RF RD HG.out.reads HQ.out.reads LS.out LW.out (by omega) (by omega) HR5.out HR6.out).mono ?_
  rintro e w15 ⟨rfl, b⟩
  replace HA := hid (HA.out.below b (Nat.le_refl _))
  replace HD := hid (HD.out.below b (Nat.le_refl _))
  replace HQ := hid (HQ.out.below b (Nat.le_refl _))
  replace HG := hid (HG.out.below b (Nat.le_refl _))
  replace HB := hid (HB.out.trans (b.mono HB.out.size))
  clear b
  clear hk2 hk3 hk4
  obtain ⟨y00, y01, y02, y03⟩ := HG.out.box
  go_wp2_with fail
  clear y00 y01 y02 y03
  refine (markDisk cG eG RF RD 1 HG.out.own (Nat.le_of_lt HG.out.lt) LS.out LW.out (by omega) (by omega) (by omega) (by omega) (by omega) (by omega)).mono ?_
  rintro e w16 ⟨rfl, o, g⟩
  replace HB := hid (HB.out.trans ((g.below (Nat.le_trans TG.out (Nat.le_of_lt HG.out.lt))).mono (Nat.le_of_lt AG.out)))
  replace HA := hid (HA.out.within g (.inl AG.out) (HA0.out.below HB.out (Nat.le_refl _)))
  replace HD := hid (HD0.out.below HB.out (Nat.le_refl _))
  replace HQ := hid (HQ.out.within g (.inr QG.out))
  replace HG := hid (HG.out.self g o)
  clear o g
  have hk : ¬ (1 + (tot RS : Int) + (tw RW : Int)) < 0 := by omega
  have hk5 : (1 + (tot RS : Int) + (tw RW : Int) != 1 + (tot RS : Int) + (tw RW : Int)) = false := by simp
  obtain ⟨y00, y01, y02, y03⟩ := HG.out.box
  go_wp2_with fail
  clear y00 y01 y02 y03
  refine (heldDisk cG eG RF RD 1 HG.out.reads LS.out LW.out (by omega) (by omega) (by omega) (by omega) (by omega) (by omega)).mono ?_
  rintro e w17 ⟨rfl, b⟩
  replace HA := hid (HA.out.below b (Nat.le_refl _))
  replace HD := hid (HD.out.below b (Nat.le_refl _))
  replace HQ := hid (HQ.out.below b (Nat.le_refl _))
  replace HG := hid (HG.out.below b (Nat.le_refl _))
  replace HB := hid (HB.out.trans (b.mono HB.out.size))
  clear b
  obtain ⟨y00, y01, y02, y03⟩ := HA.out.box
  go_wp2_with fail
  clear y00 y01 y02 y03
  refine (toDisk cS cW F D HA.out.reads lS lW (by omega) (by omega) HS5.out HS6.out).mono ?_
  rintro e w18 ⟨zS, zW, rfl, o, b⟩
  replace HA := hid (HA.out.below b (Nat.le_refl _))
  replace HD := hid (HD.out.below b (Nat.le_refl _))
  replace HQ := hid (HQ.out.below b (Nat.le_refl _))
  replace HG := hid (HG.out.below b (Nat.le_refl _))
  replace HB := hid (HB.out.trans (b.mono HB.out.size))
  have P := hid o.rd
  clear o b
  go_wp2_with fail
  refine (toByteS_any cD HD.out (by omega)).mono ?_
  rintro e w19 ⟨rfl, o, b⟩
  replace HA := hid (HA.out.below b (Nat.le_refl _))
  replace HD := hid (HD.out.below b (Nat.le_refl _))
  replace HQ := hid (HQ.out.below b (Nat.le_refl _))
  replace HG := hid (HG.out.below b (Nat.le_refl _))
  replace P := hid (P.out.below b (Nat.le_refl _))
  replace HB := hid (HB.out.trans (b.mono HB.out.size))
  obtain ⟨_, _, e1, p, _⟩ := Reads.own o HD0.out.bd
  obtain ⟨rfl, _, rfl⟩ := Value.slice.inj e1
  have PX := hid p
  clear o b e1 p
  go_wp2_with fail
  refine (impl_Write nS nW at' P.out lS lW nD PX.out hF ((VV.out.below HB.out).up HB.out.size) HR.out).mono ?_
  rintro e w20 ⟨aH, n1, cH, dH, n2, eH, l1, l2, rfl, o, b⟩
  obtain rfl : mS = n1 := LS.out.symm.trans l1
  obtain rfl : mW = n2 := LW.out.symm.trans l2
  clear l1 l2
  replace HA := hid (HA.out.below b (Nat.le_refl _))
  replace HD := hid (HD.out.below b (Nat.le_refl _))
  replace HQ := hid (HQ.out.below b (Nat.le_refl _))
  replace HG := hid (HG.out.below b (Nat.le_refl _))
  replace HB := hid (HB.out.trans (b.mono HB.out.size))
  clear P PX
  have P := hid o
  clear o b
  obtain ⟨y00, y01, y02, y03⟩ := (HQ.out.alloc (.cells #[.slice aH mS cH, .slice dH mW eH, .int .i64 RF, .bool RD] 27)).box
  go_wp2_with fail
  clear y00 y01 y02 y03
  have HH := hid (OwnB.new (nS := mS) (cS := cH) (nW := mW) (cW := eH) RF RD P.out 27 w20.heap.size rfl)
  replace HA := hid (HA.out.alloc (.cells #[.slice aH mS cH, .slice dH mW eH, .int .i64 RF, .bool RD] 27))
  replace HD := hid (HD.out.alloc (.cells #[.slice aH mS cH, .slice dH mW eH, .int .i64 RF, .bool RD] 27))
  replace HQ := hid (HQ.out.alloc (.cells #[.slice aH mS cH, .slice dH mW eH, .int .i64 RF, .bool RD] 27))
  replace HG := hid (HG.out.alloc (.cells #[.slice aH mS cH, .slice dH mW eH, .int .i64 RF, .bool RD] 27))
  replace HB := hid (HB.out.trans ((Below.alloc1 w20 (.cells #[.slice aH mS cH, .slice dH mW eH, .int .i64 RF, .bool RD] 27)).mono HB.out.size))
  generalize w20.alloc (.cells #[.slice aH mS cH, .slice dH mW eH, .int .i64 RF, .bool RD] 27) = t3 at *
  generalize w20.heap.size = GH at *
  clear P
  refine (eqDisk cH eH cQ eQ RF RD HH.out.reads HQ.out.reads LS.out LW.out (by omega) (by omega) HR5.out HR6.out).mono ?_
  rintro e w21 ⟨rfl, b⟩
  replace HA := hid (HA.out.below b (Nat.le_refl _))
  replace HD := hid (HD.out.below b (Nat.le_refl _))
  replace HQ := hid (HQ.out.below b (Nat.le_refl _))
  replace HG := hid (HG.out.below b (Nat.le_refl _))
  replace HB := hid (HB.out.trans (b.mono HB.out.size))
  clear b
  obtain ⟨y00, y01, y02, y03⟩ := HG.out.box
  go_wp2_with fail
  clear y00 y01 y02 y03
  refine (heldDisk cG eG RF RD 1 HG.out.reads LS.out LW.out (by omega) (by omega) (by omega) (by omega) (by omega) (by omega)).mono ?_
  rintro e w22 ⟨rfl, b⟩
  replace HA := hid (HA.out.below b (Nat.le_refl _))
  replace HD := hid (HD.out.below b (Nat.le_refl _))
  replace HQ := hid (HQ.out.below b (Nat.le_refl _))
  replace HG := hid (HG.out.below b (Nat.le_refl _))
  replace HB := hid (HB.out.trans (b.mono HB.out.size))
  clear b
  go_wp2_with fail
  go_ret
  exact ⟨rfl, HB.out⟩
end Go.Proofs.YtlbkfpnpighemaaDoor
