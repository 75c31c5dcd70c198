/- FnPages' walk. -/
import Derived.Test.YtioefplkadpfnaaMgb
import Derived.Test.YtioefplkadpfnaaPf7
import Derived.Deep.RegionHeld3
namespace Go.Proofs.Ytioefplkadpfnaa
open Go.RowKit
set_option maxRecDepth 100000

theorem beq_true8 (b : Bool) : (b != b) = false := by cases b <;> rfl

set_option maxHeartbeats 25600000 in
theorem lawPages {ad : Option Addr} {nn : Nat} (cap : Nat) {zs : List Int} {w : World} (r : Reads w ad nn zs) (hm : nn ≤ maxLen) :
    Calls Try.prog 3 #[.slice ad nn cap] w fun e w' => e = .returned (.bool true) ∧ Below w.heap.size w w' := by
  unfold maxLen at hm
  have HR0 := hid r
  have HB := hid (Below.refl w.heap.size w)
  have hbg := law_big ad nn cap
  clear r
  go_enter Try.func3, Try.ntmps3
  go_wp2_with fail
  refine (hbg _).mono ?_
  rintro e w0 ⟨rfl, hw0⟩
  subst w0
  clear hbg
  by_cases hbig : (1048576 : Int) < (nn : Int)
  · rw [decide_eq_true hbig]
    go_wp2_with fail
    go_ret
    exact ⟨rfl, HB.out⟩
  rw [decide_eq_false hbig]
  have hn : nn ≤ 2097152 := by omega
  clear hbig
  go_wp2_with fail
  refine (drawPagePut cap HR0.out hn).mono ?_
  rintro e w1 ⟨L, a, k, c, ss, sl, aD, nD, cD, D, lsn, rfl, rd, hl, sm, rdD, hnil, hnD, b⟩
  replace HB := hid (HB.out.trans (b.mono HB.out.size))
  have hk40 : k ≤ 40 := by have := sm.n; omega
  have HX := hid (ArgP.new L k c rd 26 w1.heap.size rfl)
  have bA := Below.alloc1 w1 (.cells #[.int .i64 L, .slice a k c] 26)
  replace HB := hid (HB.out.trans (bA.mono HB.out.size))
  have HD := hid (rdD.below bA (Nat.le_refl _))
  have HNIL := hid hnil
  have hU := hid (alloc_size w1 (.cells #[.int .i64 L, .slice a k c] 26))
  clear b rd sm bA rdD HR0 hnil
  obtain ⟨⟨RL, RS⟩, hR⟩ : ∃ x, putP L ss sl D lsn = x := ⟨_, rfl⟩
  obtain ⟨ok, hok⟩ : ∃ ok, putOk L ss sl D lsn = ok := ⟨_, rfl⟩
  obtain ⟨m, hm2⟩ : ∃ m, RS.length = m := ⟨_, rfl⟩
  have hmS : m ≤ 100 := by have := (put_small hR).n; omega
  have HR := hid hR
  have HOK := hid hok
  have HM := hid hm2
  have hqo := beq_true8 ok
  clear hR hok hm2
  obtain ⟨x0, x1⟩ := HX.out.box
  go_wp2_with fail
  clear x0 x1
  generalize w1.alloc (.cells #[.int .i64 L, .slice a k c] 26) = U at *
  generalize w1.heap.size = pb at *
  refine (impl_PagePut L c sl cD lsn HX.out.reads hl (by omega) HD.out HNIL.out HR.out HOK.out HM.out).mono ?_
  rintro e w2 ⟨aQ, cQ, rfl, oQ, b⟩
  replace HX := hid (HX.out.below b (Nat.le_refl _))
  replace HD := hid (HD.out.below b (Nat.le_refl _))
  replace HB := hid (HB.out.trans (b.mono HB.out.size))
  have HQ := hid (ArgP.new RL m cQ oQ.rd 26 w2.heap.size rfl)
  have bA := Below.alloc1 w2 (.cells #[.int .i64 RL, .slice aQ m cQ] 26)
  replace HX := hid (HX.out.below bA (Nat.le_refl _))
  replace HD := hid (HD.out.below bA (Nat.le_refl _))
  replace HB := hid (HB.out.trans (bA.mono HB.out.size))
  clear b bA oQ
  obtain ⟨x0, x1⟩ := HX.out.box
  go_wp2_with fail
  clear x0 x1
  generalize w2.alloc (.cells #[.int .i64 RL, .slice aQ m cQ] 26) = U2 at *
  generalize w2.heap.size = pq at *
  refine (spec_PagePut L c sl cD lsn HX.out.reads hl HD.out HNIL.out HR.out HOK.out HM.out).mono ?_
  rintro e w3 ⟨aT, cT, rfl, _, b⟩
  replace HX := hid (HX.out.below b (Nat.le_refl _))
  replace HD := hid (HD.out.below b (Nat.le_refl _))
  replace HQ := hid (HQ.out.below b (Nat.le_refl _))
  replace HB := hid (HB.out.trans (b.mono HB.out.size))
  have bA := Below.alloc1 w3 (.cells #[.int .i64 RL, .slice aT m cT] 26)
  replace HX := hid (HX.out.below bA (Nat.le_refl _))
  replace HD := hid (HD.out.below bA (Nat.le_refl _))
  replace HQ := hid (HQ.out.below bA (Nat.le_refl _))
  replace HB := hid (HB.out.trans (bA.mono HB.out.size))
  clear b bA
  cases ok with
  | false =>
    have hz : RL = 0 ∧ RS = [] := Prod.mk.inj (HR.out.symm.trans (putP_no HOK.out))
    obtain ⟨rfl, rfl⟩ := hz
    obtain ⟨y0, y1⟩ := HQ.out.box
    go_wp2_with fail
    clear y0 y1
    generalize w3.alloc (.cells #[.int .i64 0, .slice aT m cT] 26) = U3 at *
    refine (impl_PageUsed 0 cQ HQ.out.reads HM.out (by omega)).mono ?_
    rintro e w4 ⟨rfl, b⟩
    rw [used_zero]
    replace HB := hid (HB.out.trans (b.mono HB.out.size))
    clear b
    go_wp2_with fail
    go_ret
    exact ⟨rfl, HB.out⟩
  | true =>
    obtain ⟨S, hS, PY⟩ := put_y HOK.out
    subst hS
    have hz : RL = lsn ∧ RS = layP ss S D := by have := Prod.mk.inj (HR.out.symm.trans (putP_yes HOK.out)); rw [Int.toNat_natCast] at this; exact this
    obtain ⟨rfl, hRS⟩ := hz
    have HY := hid PY
    have HRS := hid hRS
    have hmk : k ≤ m ∧ S < m := by rw [← HM.out, hRS, layP_length, hl]; omega
    clear hRS PY HR HOK HNIL
    go_wp2_with fail
    generalize w3.alloc (.cells #[.int .i64 RL, .slice aT m cT] 26) = U3 at *
    obtain ⟨y0, y1⟩ := HQ.out.box
    have hSm : (S : Int) < (m : Int) := by omega
    have hS0 : (0 : Int) ≤ (S : Int) := by omega
    have q1 : (RL != RL) = false := by simp
    have q2 : decide ((m : Int) ≤ (S : Int)) = false := decide_eq_false (by omega)
    have q3 : ¬ (m : Int) ≤ (S : Int) := by omega
    obtain ⟨bQ, oQ, ax, cx, eQ, hcx, hrx⟩ := HQ.out.reads.slot (k := S) (by have := HM.out; omega)
    have hDS : RS.getD S [] = D := by rw [HRS.out]; exact lay_self _ _ _
    rw [hDS] at hcx hrx
    have s1 := conv_all hrx cx
    have s2 := conv_all HD.out cD
    have hDl := HD.out.len
    rw [hDl] at hcx s1
    subst eQ
    clear hrx hDS
    go_quiet (fail)
    clear s1 s2 hcx q1 q2 q3
    go_wp2_with fail
    obtain ⟨x0, x1⟩ := HX.out.box
    go_loopw [11] (fun i wr => ∃ j q : Nat, j ≤ k ∧ i = .int .i64 j ∧ wr = U3.drewN q) (fun i _ => k - (intOf i).toNat)
    case atStart => exact ⟨0, _, Nat.zero_le _, rfl, rfl⟩
    case round =>
      obtain ⟨j, q, hj, rfl, rfl⟩ := hrel
      by_cases hlt : j < k
      · have hlt' : (j : Int) < (k : Int) := by omega
        have hj0 : (0 : Int) ≤ (j : Int) := by omega
        by_cases hjS : j = S
        · subst hjS
          have q4 : ((j : Int) != (j : Int)) = false := by simp
          go_wp2_with fail
          go_quiet (fail)
          go_wp2_with fail
          go_roundw
          case rel => exact ⟨j + 1, _, by omega, by go_num, rfl⟩
          case measure => simp [intOf]; omega
        · have q4 : ((j : Int) != (S : Int)) = true := by simp; omega
          have hjm : (j : Int) < (m : Int) := by omega
          obtain ⟨bQ', oQ', ax, cx, eQ, hcx, hrx⟩ := HQ.out.reads.slot (k := j) (by have := HM.out; omega)
          obtain ⟨rfl, rfl⟩ : bQ = bQ' ∧ oQ = oQ' := by cases eQ; exact ⟨rfl, rfl⟩
          obtain ⟨bX, oX, ay, cy, eX, hcy, hry⟩ := HX.out.reads.slot (k := j) (by omega)
          have hDS : RS.getD j [] = ss.getD j [] := by rw [HRS.out]; exact lay_other _ _ _ _ hjS
          rw [hDS] at hcx hrx
          subst eX
          have s1 := conv_all hrx cx
          have s2 := conv_all hry cy
          generalize ss.getD j [] = z at *
          clear hrx hry hDS
          go_wp2_with fail
          go_quiet (fail)
          go_wp2_with fail
          go_roundw
          case rel => exact ⟨j + 1, _, by omega, by go_num, rfl⟩
          case measure => simp [intOf]; omega
      · have hlt' : ¬ (j : Int) < (k : Int) := by omega
        have b := (Still.drewN U3 q).below U3.heap.size
        go_wp2_with fail
        clear x0 x1 y0 y1
        replace HQ := hid (HQ.out.below b (Nat.le_refl _))
        replace HB := hid (HB.out.trans (b.mono HB.out.size))
        clear b HX HD
        generalize U3.drewN q = V at *
        refine (impl_PageBytes RL cQ HQ.out.reads HM.out (by omega)).mono ?_
        rintro e w4 ⟨v, rfl, o, b⟩
        have HOP := hid (show okP RL RS = true by rw [HRS.out]; exact HY.out.ok2)
        rw [bytesP_len HOP.out] at o
        have HBA := hid (show bdZ (bytesP RL RS) from bytesP_bd HQ.out.reads.bd)
        obtain ⟨ga, ca, e0, _, _⟩ := o.form (by omega)
        subst e0
        have hca := own_le o
        have hca2 : ca ≤ 9223372036854775807 := by rcases o.2 with ⟨e, _⟩ | ⟨g', cap', cur, e, _, _, h1, h2, _⟩; cases e; (obtain ⟨_, _, rfl⟩ := Value.slice.inj e; exact h2)
        have RA := hid ((reads_of o HBA.out).1)
        replace HQ := hid (HQ.out.below b (Nat.le_refl _))
        replace HB := hid (HB.out.trans (b.mono HB.out.size))
        clear b o
        have HRD := hid (read_back HOP.out)
        have z1 : (readP (bytesP RL RS)).getD (0, []) = (RL, RS) := by rw [HRD.out]; rfl
        have z2 : (readP (bytesP RL RS)).isSome = true := by rw [HRD.out]; rfl
        have Z1 := hid z1
        have Z2 := hid z2
        generalize bytesP RL RS = BB at *
        clear z1 z2
        go_wp2_with fail
        refine (impl_PageRead RA.out hca hca2 Z1.out Z2.out HM.out).mono ?_
        rintro e w5 ⟨aB, cB, rfl, oB, b⟩
        replace HQ := hid (HQ.out.below b (Nat.le_refl _))
        replace HB := hid (HB.out.trans (b.mono HB.out.size))
        have HBk := hid (ArgP.new RL m cB oB.rd 26 w5.heap.size rfl)
        have bA := Below.alloc1 w5 (.cells #[.int .i64 RL, .slice aB m cB] 26)
        replace HQ := hid (HQ.out.below bA (Nat.le_refl _))
        replace HB := hid (HB.out.trans (bA.mono HB.out.size))
        clear b bA oB RA Z1 Z2 HBA
        obtain ⟨x0, x1⟩ := HBk.out.box
        obtain ⟨y0, y1⟩ := HQ.out.box
        go_wp2_with fail
        clear x0 x1 y0 y1
        generalize w5.alloc (.cells #[.int .i64 RL, .slice aB m cB] 26) = U5 at *
        generalize w5.heap.size = pk at *
        refine (samePage RL cB cQ HBk.out.reads HQ.out.reads HM.out (by omega)).mono ?_
        rintro e w6 ⟨rfl, b⟩
        replace HQ := hid (HQ.out.below b (Nat.le_refl _))
        replace HB := hid (HB.out.trans (b.mono HB.out.size))
        clear b HBk
        obtain ⟨⟨CL, CS⟩, hC⟩ : ∃ x, clearP RL RS (S : Int) RL = x := ⟨_, rfl⟩
        have hCC : CL = RL ∧ CS = trimP (layP RS S []) := by have h1 := HY.out.clrP; rw [← HRS.out] at h1; exact Prod.mk.inj (hC.symm.trans h1)
        obtain ⟨rfl, hCS⟩ := hCC
        have HCS := hid hCS
        have HC := hid hC
        have HCK := hid (show clearOk CL RS (S : Int) CL = true by have h1 := HY.out.clr; rw [← HRS.out] at h1; exact h1)
        obtain ⟨m2, hm2⟩ : ∃ m2, CS.length = m2 := ⟨_, rfl⟩
        have hm2m : m2 ≤ m := by rw [← hm2, hCS]; have := clr_len (ss := RS) (S := S); have := HM.out; omega
        have HM2 := hid hm2
        have HLESS := hid (show usedP CL CS < usedP CL RS by rw [hCS, HRS.out]; exact HY.out.less)
        clear hCS hC hm2
        obtain ⟨y0, y1⟩ := HQ.out.box
        go_wp2_with fail
        clear y0 y1
        refine (impl_PageClear CL cQ (S : Int) CL HQ.out.reads HM.out (by omega) HC.out HCK.out HM2.out).mono ?_
        rintro e w7 ⟨aR, cR, rfl, oR, b⟩
        replace HQ := hid (HQ.out.below b (Nat.le_refl _))
        replace HB := hid (HB.out.trans (b.mono HB.out.size))
        have HRr := hid (ArgP.new CL m2 cR oR.rd 26 w7.heap.size rfl)
        have bA := Below.alloc1 w7 (.cells #[.int .i64 CL, .slice aR m2 cR] 26)
        replace HQ := hid (HQ.out.below bA (Nat.le_refl _))
        replace HB := hid (HB.out.trans (bA.mono HB.out.size))
        clear b bA oR HC HCK
        go_wp2_with fail
        generalize w7.alloc (.cells #[.int .i64 CL, .slice aR m2 cR] 26) = U7 at *
        generalize w7.heap.size = pr at *
        have b := (Still.drew U7).below U7.heap.size
        replace HQ := hid (HQ.out.below b (Nat.le_refl _))
        replace HRr := hid (HRr.out.below b (Nat.le_refl _))
        replace HB := hid (HB.out.trans (b.mono HB.out.size))
        clear b
        refine region_K 99 (fun W => BoxP W pq CL (some ⟨bQ, oQ, none⟩) m cQ ∧ BoxP W pr CL aR m2 cR) (by kernel_rfl) ?_ (fun hHeld => ?_)
        · exact ⟨HQ.out.box, HRr.out.box⟩
        generalize U7.drew = v0 at *
        refine anyK_take2 (i := 0) (v := ?v9001) rfl (by kernel_rfl) (by kernel_rfl) (by kernel_rfl) (by rfl) (fun _ _ _ h => h) (by rfl) hHeld ?hy9001 (some 118) (by rfl) ?rest9001
        case hy9001 => (intro W hSw; obtain ⟨⟨r0, r1⟩, ⟨r2, r3⟩⟩ := hSw; go_simp; (try with_reducible rfl))
        try simp only [Act.put]
        try simp only [List.setIfInBounds_toArray]
        try simp only [List.set_cons_succ, List.set_cons_zero]
        refine anyK_take2 (i := 1) (v := ?v9002) rfl (by kernel_rfl) (by kernel_rfl) (by kernel_rfl) (by rfl) (fun _ _ _ h => h) (by rfl) hHeld ?hy9002 (some 119) (by rfl) ?rest9002
        case hy9002 => (intro W hSw; obtain ⟨⟨r0, r1⟩, ⟨r2, r3⟩⟩ := hSw; go_simp; (try with_reducible rfl))
        try simp only [Act.put]
        try simp only [List.setIfInBounds_toArray]
        try simp only [List.set_cons_succ, List.set_cons_zero]
        refine anyK_take2 (i := 2) (v := ?v9003) rfl (by kernel_rfl) (by kernel_rfl) (by kernel_rfl) (by rfl) (fun _ _ _ h => h) (by rfl) hHeld ?hy9003 (some 120) (by rfl) ?rest9003
        case hy9003 => (intro W hSw; obtain ⟨⟨r0, r1⟩, ⟨r2, r3⟩⟩ := hSw; go_simp; (try with_reducible rfl))
        try simp only [Act.put]
        try simp only [List.setIfInBounds_toArray]
        try simp only [List.set_cons_succ, List.set_cons_zero]
        refine anyK_take2 (i := 3) (v := ?v9004) rfl (by kernel_rfl) (by kernel_rfl) (by kernel_rfl) (by rfl) (fun _ _ _ h => h) (by rfl) hHeld ?hy9004 (some 121) (by rfl) ?rest9004
        case hy9004 => (intro W hSw; obtain ⟨⟨r0, r1⟩, ⟨r2, r3⟩⟩ := hSw; go_simp; (try with_reducible rfl))
        try simp only [Act.put]
        try simp only [List.setIfInBounds_toArray]
        try simp only [List.set_cons_succ, List.set_cons_zero]
        refine anyK_take2 (i := 5) (v := ?v9005) rfl (by kernel_rfl) (by kernel_rfl) (by kernel_rfl) (by rfl) (fun _ _ _ h => h) (by rfl) hHeld ?hy9005 (some 123) (by rfl) ?rest9005
        case hy9005 => (intro W hSw; obtain ⟨⟨r0, r1⟩, ⟨r2, r3⟩⟩ := hSw; go_simp; (try with_reducible rfl))
        try simp only [Act.put]
        try simp only [List.setIfInBounds_toArray]
        try simp only [List.set_cons_succ, List.set_cons_zero]
        refine anyK_step (i := 4) (by kernel_rfl) rfl (fun KP hK => ?_)
        go_simp
        refine (impl_PageUsed CL cR HRr.out.reads HM2.out (by omega)).mono ?_
        rintro e w8 ⟨rfl, b⟩
        replace HQ := hid (HQ.out.below b (Nat.le_refl _))
        replace HRr := hid (HRr.out.below b (Nat.le_refl _))
        replace HB := hid (HB.out.trans (b.mono HB.out.size))
        clear b
        go_wp2_with fail
        refine hK.out _ _ ?_ (fun hH2 => ?_)
        · exact ⟨HQ.out.box, HRr.out.box⟩
        clear hK KP hHeld
        have hHeld := hH2
        clear hH2
        try simp only [Act.put]
        try simp only [List.setIfInBounds_toArray]
        try simp only [List.set_cons_succ, List.set_cons_zero]
        refine anyK_step (i := 6) (by kernel_rfl) rfl (fun KP hK => ?_)
        go_simp
        refine (impl_PageUsed CL cQ HQ.out.reads HM.out (by omega)).mono ?_
        rintro e w9 ⟨rfl, b⟩
        replace HQ := hid (HQ.out.below b (Nat.le_refl _))
        replace HRr := hid (HRr.out.below b (Nat.le_refl _))
        replace HB := hid (HB.out.trans (b.mono HB.out.size))
        clear b
        obtain ⟨u1, hu1⟩ : ∃ u1, usedP CL CS = u1 := ⟨_, rfl⟩
        obtain ⟨u2, hu2⟩ : ∃ u2, usedP CL RS = u2 := ⟨_, rfl⟩
        have hlu := HLESS.out
        rw [hu1, hu2] at hlu
        rw [hu1, hu2]
        have q7 : ¬ u2 ≤ u1 := by omega
        have q8 : decide (u2 ≤ u1) = false := decide_eq_false q7
        clear hu1 hu2 hlu
        go_wp2_with fail
        refine hK.out _ _ ?_ (fun hH2 => ?_)
        · exact ⟨HQ.out.box, HRr.out.box⟩
        clear hK KP hHeld
        have hHeld := hH2
        clear hH2
        try simp only [Act.put]
        try simp only [List.setIfInBounds_toArray]
        try simp only [List.set_cons_succ, List.set_cons_zero]
        refine anyK_take2 (i := 7) (v := ?v9006) rfl (by kernel_rfl) (by kernel_rfl) (by kernel_rfl) (by rfl) (fun _ _ _ h => h) (by rfl) hHeld ?hy9006 (some 125) (by rfl) ?rest9006
        case hy9006 => (intro W hSw; obtain ⟨⟨r0, r1⟩, ⟨r2, r3⟩⟩ := hSw; go_simp; (try with_reducible rfl))
        try simp only [Act.put]
        try simp only [List.setIfInBounds_toArray]
        try simp only [List.set_cons_succ, List.set_cons_zero]
        refine anyK_take2 (i := 8) (v := ?v9007) rfl (by kernel_rfl) (by kernel_rfl) (by kernel_rfl) (by rfl) (fun _ _ _ h => h) (by rfl) hHeld ?hy9007 (some 126) (by rfl) ?rest9007
        case hy9007 => (intro W hSw; obtain ⟨⟨r0, r1⟩, ⟨r2, r3⟩⟩ := hSw; go_simp; (try with_reducible rfl))
        try simp only [Act.put]
        try simp only [List.setIfInBounds_toArray]
        try simp only [List.set_cons_succ, List.set_cons_zero]
        refine anyK_done (by kernel_rfl) ?_ _
        clear hHeld
        go_wp2_with fail
        obtain ⟨y0, y1⟩ := HQ.out.box
        obtain ⟨x0, x1⟩ := HRr.out.box
        go_loopw [16] (fun i wr => ∃ j q : Nat, j ≤ m2 ∧ i = .int .i64 j ∧ wr = w9.drewN q) (fun i _ => m2 - (intOf i).toNat)
        case atStart => exact ⟨0, 0, Nat.zero_le _, rfl, rfl⟩
        case round =>
          obtain ⟨j, q, hj, rfl, rfl⟩ := hrel
          by_cases hlt : j < m2
          · have hlt' : (j : Int) < (m2 : Int) := by omega
            have hj0 : (0 : Int) ≤ (j : Int) := by omega
            have hjm : (j : Int) < (m : Int) := by omega
            obtain ⟨bR, oR, ax, cx, eR, hcx, hrx⟩ := HRr.out.reads.slot (k := j) (by have := HM2.out; omega)
            subst eR
            by_cases hjS : j = S
            · subst hjS
              have hDS : CS.getD j [] = [] := by rw [HCS.out]; exact clr_self (by have := HM2.out; rw [HCS.out] at this; omega)
              rw [hDS] at hcx
              have q4 : ((j : Int) == (j : Int)) = true := by simp
              have q5 : ((j : Int) != (j : Int)) = false := by simp
              simp only [List.length_nil] at hcx
              clear hrx hDS
              go_wp2_with fail
              go_quiet (fail)
              go_wp2_with fail
              go_roundw
              case rel => exact ⟨j + 1, _, by omega, by go_num, rfl⟩
              case measure => simp [intOf]; omega
            · have q4 : ((j : Int) == (S : Int)) = false := by simp; omega
              have q5 : ((j : Int) != (S : Int)) = true := by simp; omega
              obtain ⟨bQ', oQ', ay, cy, eQ, hcy, hry⟩ := HQ.out.reads.slot (k := j) (by have := HM.out; omega)
              obtain ⟨rfl, rfl⟩ : bQ = bQ' ∧ oQ = oQ' := by cases eQ; exact ⟨rfl, rfl⟩
              have hDS : CS.getD j [] = RS.getD j [] := by rw [HCS.out]; exact clr_other (by have := HM2.out; rw [HCS.out] at this; omega) hjS
              rw [hDS] at hcx hrx
              have s1 := conv_all hrx cx
              have s2 := conv_all hry cy
              generalize RS.getD j [] = z at *
              clear hrx hry hDS
              go_wp2_with fail
              go_quiet (fail)
              go_wp2_with fail
              go_roundw
              case rel => exact ⟨j + 1, _, by omega, by go_num, rfl⟩
              case measure => simp [intOf]; omega
          · have hlt' : ¬ (j : Int) < (m2 : Int) := by omega
            go_wp2_with fail
            go_ret
            exact ⟨rfl, HB.out.trans ((Still.drewN w9 q).below _)⟩
end Go.Proofs.Ytioefplkadpfnaa
