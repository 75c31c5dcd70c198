/- FnDisks' walk. -/
import Derived.Test.YtnnnehjlegjejaaDoorD4m
import Derived.Test.YtnnnehjlegjejaaDoorD4a
import Derived.Test.YtnnnehjlegjejaaDoorDdd
import Derived.Test.YtnnnehjlegjejaaDoorFz
import Derived.Test.YtnnnehjlegjejaaDoorSb
import Derived.Test.YtnnnehjlegjejaaDoorD4w
namespace Go.Proofs.YtnnnehjlegjejaaDoor
open Go.RowKit

theorem box_cells {w : World} {p : Nat} {v0 v1 v2 v3 : Value} (h : w.heap[p]? = some (.cells #[v0, v1, v2, v3] 27)) : w.cell? ⟨p, 0, none⟩ = some v0 ∧ w.cell? ⟨p, 1, none⟩ = some v1 ∧ w.cell? ⟨p, 2, none⟩ = some v2 ∧ w.cell? ⟨p, 3, none⟩ = some v3 :=
  ⟨by rw [cell_of_row _ _ _ _ _ _ h]; rfl, by rw [cell_of_row _ _ _ _ _ _ h]; rfl, by rw [cell_of_row _ _ _ _ _ _ h]; rfl, by rw [cell_of_row _ _ _ _ _ _ h]; rfl⟩
set_option maxRecDepth 100000 in
set_option maxHeartbeats 12800000 in
theorem lawDisks {ad : Option Addr} {n : Nat} (cap : Nat) {zs : List Int} {w : World} (h : Reads w ad n zs) (hn : n ≤ maxLen) {s0 s1 : Addr} {e0 e1 : Array Value} {u0 u1 : TypeId} (hv : Sents w w.heap.size s0 s1 e0 e1 u0 u1) :
    Calls Tryd.prog 3 #[.slice ad n cap] w fun e w' => e = .returned (.bool true) ∧ Below w.heap.size w w' := by
  unfold maxLen at hn
  have HV := hid hv
  have HR := hid h
  clear hv h
  go_enter Tryd.func3, Tryd.ntmps3
  go_wp2_with fail
  refine (law_big ad n cap w).mono ?_
  rintro e w1 ⟨rfl, h1⟩
  obtain rfl := h1.symm
  by_cases hb : (1048576 : Int) < (n : Int)
  · rw [decide_eq_true hb]
    go_wp2_with fail
    go_ret
    exact ⟨rfl, Below.refl _ _⟩
  rw [decide_eq_false hb]
  have hn' : n ≤ 1048576 := by omega
  clear h1 hb hn
  go_wp2_with fail
  refine (drawWrite cap HR.out (by omega)).mono ?_
  rintro e w1 ⟨aS, nS, cS, aW, nW, cW, F, D, S, W, x, aD, nD, cD, zd, rfl, lS, lW, hF, rd1, rz1, hnD, b1⟩
  have HB := hid b1
  have RD := hid rd1
  have RZ := hid rz1
  have LD := hid (And.intro lS lW)
  replace HR := hid (HR.out.below b1 (Nat.le_refl _))
  clear b1 rd1 rz1 lS lW
  have TDn := hid (heap_alloc_new w1 (.cells #[.slice aS nS cS, .slice aW nW cW, .int .i64 F, .bool D] 27))
  have bA := Below.alloc1 w1 (.cells #[.slice aS nS cS, .slice aW nW cW, .int .i64 F, .bool D] 27)
  replace HB := hid (HB.out.trans (bA.mono HB.out.size))
  replace RD := hid (RD.out.below bA (Nat.le_refl _))
  replace RZ := hid (RZ.out.below bA (Nat.le_refl _))
  replace HR := hid (HR.out.below bA (Nat.le_refl _))
  have TD := TDn
  clear TDn bA
  go_wp2_with fail
  generalize w1.alloc (.cells #[.slice aS nS cS, .slice aW nW cW, .int .i64 F, .bool D] 27) = W1 at *
  generalize w1.heap.size = pD at *
  refine (drawCrash cap HR.out (by omega)).mono ?_
  rintro e w2 ⟨xS, mS, dS, xW, mW, dW, F0, D0, aK, nK, cK, ks, rfl, rk2, hnK, b2⟩
  replace HB := hid (HB.out.trans (b2.mono HB.out.size))
  replace RD := hid (RD.out.below b2 (Nat.le_refl _))
  replace RZ := hid (RZ.out.below b2 (Nat.le_refl _))
  replace HR := hid (HR.out.below b2 (Nat.le_refl _))
  replace TD := hid ((b2.block _ (Array.getElem?_eq_some_iff.1 TD.out).1).trans TD.out)
  have RK := hid rk2
  clear b2 rk2
  replace HR := hid True.intro
  have TJn := hid (heap_alloc_new w2 (.cells #[.slice xS mS dS, .slice xW mW dW, .int .i64 F0, .bool D0] 27))
  have bA := Below.alloc1 w2 (.cells #[.slice xS mS dS, .slice xW mW dW, .int .i64 F0, .bool D0] 27)
  replace HB := hid (HB.out.trans (bA.mono HB.out.size))
  replace RD := hid (RD.out.below bA (Nat.le_refl _))
  replace RZ := hid (RZ.out.below bA (Nat.le_refl _))
  replace TD := hid ((bA.block _ (Array.getElem?_eq_some_iff.1 TD.out).1).trans TD.out)
  replace RK := hid (RK.out.below bA (Nat.le_refl _))
  have TJ := TJn
  clear TJn bA
  obtain ⟨y0, y1, y2, y3⟩ : _ ∧ _ ∧ _ ∧ _ := box_cells TD.out
  go_wp2_with fail
  generalize w2.alloc (.cells #[.slice xS mS dS, .slice xW mW dW, .int .i64 F0, .bool D0] 27) = W2 at *
  generalize w2.heap.size = pJ at *
  clear y0 y1 y2 y3 HR TJ
  obtain ⟨RS, RW, RF, RD', RC, hWr⟩ : ∃ (RS : List (List Int)) (RW : List (Int × List Int)) (RF : Int) (RD : Bool) (RC : Int), writeD ⟨S, W, F, D⟩ x zd = (⟨RS, RW, RF, RD⟩, RC) := ⟨_, _, _, _, _, rfl⟩
  have HWr := hid hWr
  clear hWr
  refine (spec_Write cS cW x RD.out LD.out.1 LD.out.2 cD RZ.out (by omega) HWr.out).mono ?_
  rintro e w3 ⟨aE, m1, cE, dE, m2, eE, k1, k2, rfl, o3, b3⟩
  replace HB := hid (HB.out.trans (b3.mono HB.out.size))
  replace RD := hid (RD.out.below b3 (Nat.le_refl _))
  replace RZ := hid (RZ.out.below b3 (Nat.le_refl _))
  replace TD := hid ((b3.block _ (Array.getElem?_eq_some_iff.1 TD.out).1).trans TD.out)
  replace RK := hid (RK.out.below b3 (Nat.le_refl _))
  have RE := hid o3.rd
  have LE := hid (And.intro k1 k2)
  clear b3 o3 k1 k2
  have TEn := hid (heap_alloc_new w3 (.cells #[.slice aE m1 cE, .slice dE m2 eE, .int .i64 RF, .bool RD'] 27))
  have bA := Below.alloc1 w3 (.cells #[.slice aE m1 cE, .slice dE m2 eE, .int .i64 RF, .bool RD'] 27)
  replace HB := hid (HB.out.trans (bA.mono HB.out.size))
  replace RD := hid (RD.out.below bA (Nat.le_refl _))
  replace RZ := hid (RZ.out.below bA (Nat.le_refl _))
  replace TD := hid ((bA.block _ (Array.getElem?_eq_some_iff.1 TD.out).1).trans TD.out)
  replace RK := hid (RK.out.below bA (Nat.le_refl _))
  replace RE := hid (RE.out.below bA (Nat.le_refl _))
  have TE := TEn
  clear TEn bA
  obtain ⟨y0, y1, y2, y3⟩ : _ ∧ _ ∧ _ ∧ _ := box_cells TD.out
  go_wp2_with fail
  generalize w3.alloc (.cells #[.slice aE m1 cE, .slice dE m2 eE, .int .i64 RF, .bool RD'] 27) = W3 at *
  generalize w3.heap.size = pE at *
  clear y0 y1 y2 y3
  refine (impl_Write cS cW x RD.out LD.out.1 LD.out.2 cD RZ.out (by omega) ((HV.out.below HB.out).up HB.out.size) HWr.out).mono ?_
  rintro e w4 ⟨aF, n1, cF, dF, n2, eF, k1, k2, rfl, o4, b4⟩
  replace HB := hid (HB.out.trans (b4.mono HB.out.size))
  replace RD := hid (RD.out.below b4 (Nat.le_refl _))
  replace RZ := hid (RZ.out.below b4 (Nat.le_refl _))
  replace TD := hid ((b4.block _ (Array.getElem?_eq_some_iff.1 TD.out).1).trans TD.out)
  replace RK := hid (RK.out.below b4 (Nat.le_refl _))
  replace RE := hid (RE.out.below b4 (Nat.le_refl _))
  replace TE := hid ((b4.block _ (Array.getElem?_eq_some_iff.1 TE.out).1).trans TE.out)
  have RFd := hid o4.rd
  have LF := hid (And.intro k1 k2)
  clear b4 o4 k1 k2
  have TFn := hid (heap_alloc_new w4 (.cells #[.slice aF n1 cF, .slice dF n2 eF, .int .i64 RF, .bool RD'] 27))
  have bA := Below.alloc1 w4 (.cells #[.slice aF n1 cF, .slice dF n2 eF, .int .i64 RF, .bool RD'] 27)
  replace HB := hid (HB.out.trans (bA.mono HB.out.size))
  replace RD := hid (RD.out.below bA (Nat.le_refl _))
  replace RZ := hid (RZ.out.below bA (Nat.le_refl _))
  replace TD := hid ((bA.block _ (Array.getElem?_eq_some_iff.1 TD.out).1).trans TD.out)
  replace RK := hid (RK.out.below bA (Nat.le_refl _))
  replace RE := hid (RE.out.below bA (Nat.le_refl _))
  replace TE := hid ((bA.block _ (Array.getElem?_eq_some_iff.1 TE.out).1).trans TE.out)
  replace RFd := hid (RFd.out.below bA (Nat.le_refl _))
  have TF := TFn
  clear TFn bA
  obtain ⟨f0, f1, f2, f3⟩ : _ ∧ _ ∧ _ ∧ _ := box_cells TF.out
  obtain ⟨y0, y1, y2, y3⟩ : _ ∧ _ ∧ _ ∧ _ := box_cells TE.out
  by_cases hRC : ¬ RC = 0
  · go_wp2_with fail
    generalize w4.alloc (.cells #[.slice aF n1 cF, .slice dF n2 eF, .int .i64 RF, .bool RD'] 27) = W4 at *
    generalize w4.heap.size = pF at *
    clear f0 f1 f2 f3 y0 y1 y2 y3
    have HK := hid (show ∀ X, Below W4.heap.size W4 X → (X.cell? ⟨pF, 0, none⟩ = some (.slice aF n1 cF) ∧ X.cell? ⟨pF, 1, none⟩ = some (.slice dF n2 eF) ∧ X.cell? ⟨pF, 2, none⟩ = some (.int .i64 RF) ∧ X.cell? ⟨pF, 3, none⟩ = some (.bool RD') ∧ X.cell? ⟨pE, 0, none⟩ = some (.slice aE m1 cE) ∧ X.cell? ⟨pE, 1, none⟩ = some (.slice dE m2 eE) ∧ X.cell? ⟨pE, 2, none⟩ = some (.int .i64 RF) ∧ X.cell? ⟨pE, 3, none⟩ = some (.bool RD')) from fun X b => by
      have tf := box_cells ((b.block _ (Array.getElem?_eq_some_iff.1 TF.out).1).trans TF.out)
      have te := box_cells ((b.block _ (Array.getElem?_eq_some_iff.1 TE.out).1).trans TE.out)
      exact ⟨tf.1, tf.2.1, tf.2.2.1, tf.2.2.2, te.1, te.2.1, te.2.2.1, te.2.2.2⟩)
    have bD := hid (Below.refl W4.heap.size W4).drew
    refine region_K 5 (fun X => X.cell? ⟨pF, 0, none⟩ = some (.slice aF n1 cF) ∧ X.cell? ⟨pF, 1, none⟩ = some (.slice dF n2 eF) ∧ X.cell? ⟨pF, 2, none⟩ = some (.int .i64 RF) ∧ X.cell? ⟨pF, 3, none⟩ = some (.bool RD') ∧ X.cell? ⟨pE, 0, none⟩ = some (.slice aE m1 cE) ∧ X.cell? ⟨pE, 1, none⟩ = some (.slice dE m2 eE) ∧ X.cell? ⟨pE, 2, none⟩ = some (.int .i64 RF) ∧ X.cell? ⟨pE, 3, none⟩ = some (.bool RD')) (by kernel_rfl) ?_ (fun hHeld => ?_)
    · exact HK.out _ bD.out
    refine anyK_take (i := 0) (v := ?v5001) rfl (by kernel_rfl) (by kernel_rfl) (by kernel_rfl) (by kernel_rfl) (fun _ _ _ h => h) (by rfl) hHeld ?hy5001 (some 55) (by rfl) ?rest5001
    case hy5001 => (intro W hSw; (try dsimp only at hSw); go_simp; (try with_reducible rfl))
    try simp only [Act.put]
    try simp only [List.setIfInBounds_toArray]
    try simp only [List.set_cons_succ, List.set_cons_zero]
    refine anyK_take (i := 2) (v := ?v5002) rfl (by kernel_rfl) (by kernel_rfl) (by kernel_rfl) (by kernel_rfl) (fun _ _ _ h => h) (by rfl) hHeld ?hy5002 (some 57) (by rfl) ?rest5002
    case hy5002 => (intro W hSw; (try dsimp only at hSw); go_simp; (try with_reducible rfl))
    try simp only [Act.put]
    try simp only [List.setIfInBounds_toArray]
    try simp only [List.set_cons_succ, List.set_cons_zero]
    refine anyK_step (i := 1) (by kernel_rfl) rfl (fun K hK => ?_)
    go_simp
    refine (impl_DiskOk cF eF RF RD' (RFd.out.below bD.out (Nat.le_refl _)) LF.out.1 LF.out.2).mono ?_
    rintro e w5 ⟨rfl, b5⟩
    have B5 := hid (bD.out.trans (b5.mono bD.out.size))
    clear b5
    go_wp2_with fail
    refine hK.out _ _ ?_ (fun hH2 => ?_)
    · exact HK.out _ B5.out
    clear hK K hHeld
    have hHeld := hH2
    clear hH2
    try simp only [Act.put]
    try simp only [List.setIfInBounds_toArray]
    try simp only [List.set_cons_succ, List.set_cons_zero]
    refine anyK_step (i := 3) (by kernel_rfl) rfl (fun K hK => ?_)
    go_simp
    refine (spec_DiskOk cE eE RF RD' (RE.out.below B5.out (Nat.le_refl _)) LE.out.1 LE.out.2).mono ?_
    rintro e w6 ⟨rfl, b6⟩
    have B6 := hid (B5.out.trans (b6.mono B5.out.size))
    clear b6
    go_wp2_with fail
    refine hK.out _ _ ?_ (fun hH2 => ?_)
    · exact HK.out _ B6.out
    clear hK K hHeld
    have hHeld := hH2
    clear hH2
    try simp only [Act.put]
    try simp only [List.setIfInBounds_toArray]
    try simp only [List.set_cons_succ, List.set_cons_zero]
    refine anyK_take (i := 4) (v := ?v5005) rfl (by kernel_rfl) (by kernel_rfl) (by kernel_rfl) (by kernel_rfl) (fun _ _ _ h => h) (by rfl) hHeld ?hy5005 (some 59) (by rfl) ?rest5005
    case hy5005 => (intro W hSw; (try dsimp only at hSw); go_simp; (try with_reducible rfl))
    try simp only [Act.put]
    try simp only [List.setIfInBounds_toArray]
    try simp only [List.set_cons_succ, List.set_cons_zero]
    refine anyK_last (by kernel_rfl) rfl (fun K hK => ?_)
    go_simp
    refine hK.out _ _ ?_
    clear hK K hHeld
    refine anyK_done (by kernel_rfl) ?_ _
    go_wp2_with fail
    go_ret
    exact ⟨by simp, HB.out.trans (B6.out.mono HB.out.size)⟩
  obtain rfl := Decidable.not_not.1 hRC
  clear hRC
  go_wp2_with fail
  generalize w4.alloc (.cells #[.slice aF n1 cF, .slice dF n2 eF, .int .i64 RF, .bool RD'] 27) = W4 at *
  generalize w4.heap.size = pF at *
  clear f0 f1 f2 f3 y0 y1 y2 y3
  have hRF : RF ≤ 1000000 := wrote_F HWr.out hF
  have hw := wrote HWr.out
  have HW := hid hw
  have HX := hid (And.intro hw.lo hw.hi)
  clear hw HWr
  refine (impl_Read cF eF x RFd.out LF.out.1 LF.out.2 HW.out.read).mono ?_
  rintro e w5 ⟨v, rfl, o5, b5⟩
  replace HB := hid (HB.out.trans (b5.mono HB.out.size))
  replace RD := hid (RD.out.below b5 (Nat.le_refl _))
  replace RZ := hid (RZ.out.below b5 (Nat.le_refl _))
  replace TD := hid ((b5.block _ (Array.getElem?_eq_some_iff.1 TD.out).1).trans TD.out)
  replace RK := hid (RK.out.below b5 (Nat.le_refl _))
  replace RE := hid (RE.out.below b5 (Nat.le_refl _))
  replace TE := hid ((b5.block _ (Array.getElem?_eq_some_iff.1 TE.out).1).trans TE.out)
  replace RFd := hid (RFd.out.below b5 (Nat.le_refl _))
  replace TF := hid ((b5.block _ (Array.getElem?_eq_some_iff.1 TF.out).1).trans TF.out)
  obtain ⟨aB, cB, rfl, rb, -⟩ := Reads.own o5 RZ.out.bd
  have RB := hid rb
  clear o5 b5 rb
  have c1 := RB.out.str cB 22 Tryd.underlying22 Tryd.underlying5 Tryd.underlying9
  have c2 := RZ.out.str cD 22 Tryd.underlying22 Tryd.underlying5 Tryd.underlying9
  obtain ⟨f0, f1, f2, f3⟩ : _ ∧ _ ∧ _ ∧ _ := box_cells TF.out
  go_wp2_with fail
  clear c1 c2 f0 f1 f2 f3 RB
  obtain ⟨kr, kok, kl, kv⟩ := HW.out.crash ks
  have KV := hid kv
  have KO := hid kok
  obtain ⟨TS, hTS⟩ : ∃ TS, doneS S RW ks false = TS := ⟨_, rfl⟩
  rw [hTS] at kr kl KV KO
  clear kv kok hTS
  refine (impl_Crash cF eF RFd.out LF.out.1 LF.out.2 cK RK.out kr).mono ?_
  rintro e w6 ⟨aG, g1, cG, dG, g2, eG, k1, k2, rfl, o6, b6⟩
  obtain rfl : 0 = g2 := by simpa using k2
  have hg1 : g1 = nS := by have := LD.out.1; omega
  subst hg1
  have hg512 : g1 ≤ 512 := by have h5 := (okD_of HW.out.ok).s1; simp only at h5; rw [HW.out.rs] at h5; have := LD.out.1; omega
  replace HB := hid (HB.out.trans (b6.mono HB.out.size))
  replace RD := hid (RD.out.below b6 (Nat.le_refl _))
  replace RZ := hid (RZ.out.below b6 (Nat.le_refl _))
  replace TD := hid ((b6.block _ (Array.getElem?_eq_some_iff.1 TD.out).1).trans TD.out)
  replace RK := hid (RK.out.below b6 (Nat.le_refl _))
  replace RE := hid (RE.out.below b6 (Nat.le_refl _))
  replace TE := hid ((b6.block _ (Array.getElem?_eq_some_iff.1 TE.out).1).trans TE.out)
  replace RFd := hid (RFd.out.below b6 (Nat.le_refl _))
  replace TF := hid ((b6.block _ (Array.getElem?_eq_some_iff.1 TF.out).1).trans TF.out)
  have RG := hid o6.rd
  have LG := hid k1
  clear b6 o6 k1 k2 kr
  have TGn := hid (heap_alloc_new w6 (.cells #[.slice aG g1 cG, .slice dG 0 eG, .int .i64 (-1), .bool false] 27))
  have bA := Below.alloc1 w6 (.cells #[.slice aG g1 cG, .slice dG 0 eG, .int .i64 (-1), .bool false] 27)
  replace HB := hid (HB.out.trans (bA.mono HB.out.size))
  replace RD := hid (RD.out.below bA (Nat.le_refl _))
  replace RZ := hid (RZ.out.below bA (Nat.le_refl _))
  replace TD := hid ((bA.block _ (Array.getElem?_eq_some_iff.1 TD.out).1).trans TD.out)
  replace RK := hid (RK.out.below bA (Nat.le_refl _))
  replace RE := hid (RE.out.below bA (Nat.le_refl _))
  replace TE := hid ((bA.block _ (Array.getElem?_eq_some_iff.1 TE.out).1).trans TE.out)
  replace RFd := hid (RFd.out.below bA (Nat.le_refl _))
  replace TF := hid ((bA.block _ (Array.getElem?_eq_some_iff.1 TF.out).1).trans TF.out)
  replace RG := hid (RG.out.below bA (Nat.le_refl _))
  have TG := TGn
  clear TGn bA
  obtain ⟨q0, q1, q2, q3⟩ : _ ∧ _ ∧ _ ∧ _ := box_cells TG.out
  obtain ⟨y0, y1, y2, y3⟩ : _ ∧ _ ∧ _ ∧ _ := box_cells TD.out
  go_wp2_with fail
  generalize w6.alloc (.cells #[.slice aG g1 cG, .slice dG 0 eG, .int .i64 (-1), .bool false] 27) = W6 at *
  generalize w6.heap.size = pG at *
  clear q0 q1 q2 q3 y0 y1 y2 y3
  refine (impl_DiskOk cG eG (-1) false RG.out LG.out rfl).mono ?_
  rintro e w7 ⟨rfl, b7⟩
  rw [KO.out]
  replace HB := hid (HB.out.trans (b7.mono HB.out.size))
  replace RD := hid (RD.out.below b7 (Nat.le_refl _))
  replace RZ := hid (RZ.out.below b7 (Nat.le_refl _))
  replace TD := hid ((b7.block _ (Array.getElem?_eq_some_iff.1 TD.out).1).trans TD.out)
  replace RK := hid (RK.out.below b7 (Nat.le_refl _))
  replace RE := hid (RE.out.below b7 (Nat.le_refl _))
  replace TE := hid ((b7.block _ (Array.getElem?_eq_some_iff.1 TE.out).1).trans TE.out)
  replace RFd := hid (RFd.out.below b7 (Nat.le_refl _))
  replace TF := hid ((b7.block _ (Array.getElem?_eq_some_iff.1 TF.out).1).trans TF.out)
  replace RG := hid (RG.out.below b7 (Nat.le_refl _))
  replace TG := hid ((b7.block _ (Array.getElem?_eq_some_iff.1 TG.out).1).trans TG.out)
  clear b7 KO
  obtain ⟨q0, q1, q2, q3⟩ : _ ∧ _ ∧ _ ∧ _ := box_cells TG.out
  obtain ⟨y0, y1, y2, y3⟩ : _ ∧ _ ∧ _ ∧ _ := box_cells TD.out
  go_wp2_with fail
  clear q0 q1 q2 q3 y0 y1 y2 y3
  go_loopw [15] (fun i wr => ∃ k : Nat, k ≤ g1 ∧ i = .int .i64 k ∧ Hid (Still w7 wr)) (fun i _ => g1 - (intOf i).toNat)
  case atStart => exact ⟨0, Nat.zero_le _, rfl, hid (Still.refl _)⟩
  case round =>
    obtain ⟨i, hi, rfl, hSt⟩ := hrel
    have bS := hSt.out.below w7.heap.size
    replace HB := hid (HB.out.trans (bS.mono HB.out.size))
    replace RD := hid (RD.out.below bS (Nat.le_refl _))
    replace RZ := hid (RZ.out.below bS (Nat.le_refl _))
    replace TD := hid ((bS.block _ (Array.getElem?_eq_some_iff.1 TD.out).1).trans TD.out)
    replace RK := hid (RK.out.below bS (Nat.le_refl _))
    replace RE := hid (RE.out.below bS (Nat.le_refl _))
    replace TE := hid ((bS.block _ (Array.getElem?_eq_some_iff.1 TE.out).1).trans TE.out)
    replace RFd := hid (RFd.out.below bS (Nat.le_refl _))
    replace TF := hid ((bS.block _ (Array.getElem?_eq_some_iff.1 TF.out).1).trans TF.out)
    replace RG := hid (RG.out.below bS (Nat.le_refl _))
    replace TG := hid ((bS.block _ (Array.getElem?_eq_some_iff.1 TG.out).1).trans TG.out)
    clear bS
    obtain ⟨q0, q1, q2, q3⟩ : _ ∧ _ ∧ _ ∧ _ := box_cells TG.out
    obtain ⟨y0, y1, y2, y3⟩ : _ ∧ _ ∧ _ ∧ _ := box_cells TD.out
    obtain ⟨f0, f1, f2, f3⟩ : _ ∧ _ ∧ _ ∧ _ := box_cells TE.out
    by_cases hlt : i < g1
    · have hlt' : (i : Int) < (g1 : Int) := by omega
      have HLT := hid (And.intro hlt hg512)
      have hi0 : (0 : Int) ≤ (i : Int) := by omega
      have hlS : i < S.length := by have := LD.out.1; omega
      obtain ⟨bS, oS, eS, hcS⟩ : ∃ b off, aS = some ⟨b, off, none⟩ ∧ ∀ j, j < S.length → ∃ v, wr.cell? ⟨b, off + j, none⟩ = some v ∧ Row wr v (S.getD j []) := by
        rcases RD.out.s.cells with h0 | h0
        · omega
        · exact h0
      obtain ⟨v0, d0, r0⟩ := hcS i hlS
      obtain ⟨bG, oG, eG', hcG⟩ : ∃ b off, aG = some ⟨b, off, none⟩ ∧ ∀ j, j < TS.length → ∃ v, wr.cell? ⟨b, off + j, none⟩ = some v ∧ Row wr v (TS.getD j []) := by
        rcases RG.out.s.cells with h0 | h0
        · have := LG.out; omega
        · exact h0
      obtain ⟨vG, dG', rG⟩ := hcG i (by have := LG.out; omega)
      rw [KV.out i hlS] at rG
      clear KV
      generalize S.getD i [] = z0 at *
      subst eS eG'
      have RG' := hid rG
      have DG' := hid dG'
      have R0 := hid r0
      obtain ⟨a0, c0, rfl, -⟩ := r0
      clear hcS hcG rG dG' q1 q2 q3 y1 y2 y3 f0 f2 f3
      go_wp2_with fail
      clear y0 d0
      go_loop [16, 17] (fun s kk => ∃ (k : Nat), k ≤ RW.length ∧ kk = .int .i64 k ∧ Hid (Row wr s (keptW RW ks i k z0))) (fun _ kk => RW.length - (intOf kk).toNat)
      case atStart => exact ⟨0, Nat.zero_le _, rfl, R0⟩
      case round =>
        obtain ⟨k, hk, rfl, hR⟩ := hrel
        have hm2 := LE.out.2
        have hkl := RK.out.len
        by_cases hk2 : k < RW.length ∧ k < nK
        · obtain ⟨hk3, hk4⟩ := hk2
          have hk3' : (k : Int) < (m2 : Int) := by omega
          have hk4' : (k : Int) < (nK : Int) := by omega
          have hk0 : (0 : Int) ≤ (k : Int) := by omega
          obtain ⟨bE, oE, eE', hcE⟩ : ∃ b off, dE = some ⟨b, off, none⟩ ∧ ∀ j, j < RW.length → wr.cell? ⟨b, off + j * 2, none⟩ = some (.int .i64 (RW.getD j w0).1) ∧ ∃ v, wr.cell? ⟨b, off + j * 2 + 1, none⟩ = some v ∧ Row wr v (RW.getD j w0).2 := by
            rcases RE.out.w.cells with h0 | h0
            · omega
            · exact h0
          obtain ⟨bK, oK, eK', hcK⟩ : ∃ b off, aK = some ⟨b, off, none⟩ ∧ ∀ j, j < nK → wr.cell? ⟨b, off + j, none⟩ = some (.bool (ks.getD j false)) := by
            rcases RK.out.cells with h0 | h0
            · omega
            · exact h0
          obtain ⟨x0, vE, x1, rE⟩ := hcE k hk3
          have xk := hcK k hk4
          subst eE' eK'
          obtain ⟨aE2, cE2, eV, -⟩ := id rE
          obtain ⟨lE, hlE⟩ : ∃ l, (RW.getD k w0).2.length = l := ⟨_, rfl⟩
          rw [hlE] at eV
          subst eV
          have RE' := hid rE
          clear hcE hcK rE hlE
          by_cases hkb : ks.getD k false = true
          · rw [hkb] at xk
            by_cases hat : (RW.getD k w0).1 = (i : Int)
            · rw [hat] at x0
              go_wp2_with fail
              go_round
              case rel => exact ⟨k + 1, by omega, by go_num, hid (by rw [keptW, if_pos ⟨hkb, hat⟩]; exact RE'.out)⟩
              case measure => simp [intOf]; omega
            · obtain ⟨qa, hqa⟩ : ∃ q, (RW.getD k w0).1 = q := ⟨_, rfl⟩
              rw [hqa] at x0
              have hqn : ¬ qa = (i : Int) := by rw [← hqa]; exact hat
              have HQA := hid hqa
              have HAT := hid hat
              have HKB := hid hkb
              clear hqa hat hkb
              go_wp2_with fail
              go_round
              case rel => exact ⟨k + 1, by omega, by go_num, hid (by rw [keptW, if_neg (fun hh => HAT.out hh.2)]; exact hR.out)⟩
              case measure => simp [intOf]; omega
          · have hkb' : ks.getD k false = false := by simpa using hkb
            rw [hkb'] at xk
            have HKB := hid hkb
            clear hkb hkb' x0 x1
            go_wp2_with fail
            go_round
            case rel => exact ⟨k + 1, by omega, by go_num, hid (by rw [keptW, if_neg (fun hh => HKB.out hh.1)]; exact hR.out)⟩
            case measure => simp [intOf]; omega
        · have hkz : keptW RW ks i k z0 = keptW RW ks i RW.length z0 := by
            by_cases h1 : k = RW.length
            · rw [h1]
            · exact (keptW_min RW ks i z0 RW.length k (by omega) hk).symm
          rw [hkz] at hR
          have RG2 := RG'.out
          have RR := hR.out
          clear hkz
          generalize keptW RW ks i RW.length z0 = z at *
          obtain ⟨aV, cV, rfl, rv, -⟩ := RG2
          obtain ⟨aU, cU, rfl, ru, -⟩ := RR
          have hcd : ¬ ((k : Int) < (m2 : Int) ∧ (k : Int) < (nK : Int)) := by omega
          have CB := hid (show (wr.drew.cell? ⟨pG, 0, none⟩ = some (.slice (some ⟨bG, oG, none⟩) g1 cG) ∧ wr.drew.cell? ⟨bG, oG + i, none⟩ = some (.slice aV z.length cV) ∧ (convert 22 9 (.slice aV z.length cV)).run Tryd.prog wr.drew = .ok (.string (str z)) wr.drew ∧ (convert 22 9 (.slice aU z.length cU)).run Tryd.prog wr.drew = .ok (.string (str z)) wr.drew) from ⟨q0, DG'.out, ((Still.drew wr).reads rv).str cV 22 Tryd.underlying22 Tryd.underlying5 Tryd.underlying9, ((Still.drew wr).reads ru).str cU 22 Tryd.underlying22 Tryd.underlying5 Tryd.underlying9⟩)
          clear rv ru
          by_cases hk5 : k < RW.length
          · have hk3' : (k : Int) < (m2 : Int) := by omega
            have hk4' : ¬ (k : Int) < (nK : Int) := by omega
            go_wp2_with fail
            go_region_held3 (fun X => X.cell? ⟨pG, 0, none⟩ = some (.slice (some ⟨bG, oG, none⟩) g1 cG) ∧ X.cell? ⟨bG, oG + i, none⟩ = some (.slice aV z.length cV) ∧ (convert 22 9 (.slice aV z.length cV)).run Tryd.prog X = .ok (.string (str z)) X ∧ (convert 22 9 (.slice aU z.length cU)).run Tryd.prog X = .ok (.string (str z)) X) (exact CB.out) (fail)
            go_wp2_with fail
            go_roundw
            case rel => exact ⟨i + 1, by have := HLT.out; omega, by go_num, hid (hSt.out.trans (Still.drew wr))⟩
            case measure => have := HLT.out; simp [intOf]; omega
          · have hk3' : ¬ (k : Int) < (m2 : Int) := by omega
            go_wp2_with fail
            go_region_held3 (fun X => X.cell? ⟨pG, 0, none⟩ = some (.slice (some ⟨bG, oG, none⟩) g1 cG) ∧ X.cell? ⟨bG, oG + i, none⟩ = some (.slice aV z.length cV) ∧ (convert 22 9 (.slice aV z.length cV)).run Tryd.prog X = .ok (.string (str z)) X ∧ (convert 22 9 (.slice aU z.length cU)).run Tryd.prog X = .ok (.string (str z)) X) (exact CB.out) (fail)
            go_wp2_with fail
            go_roundw
            case rel => exact ⟨i + 1, by have := HLT.out; omega, by go_num, hid (hSt.out.trans (Still.drew wr))⟩
            case measure => have := HLT.out; simp [intOf]; omega
    · have hlt' : ¬ (i : Int) < (g1 : Int) := by omega
      clear y0 y1 y2 y3 f0 f1 f2 f3 q1 q2 q3 KV hSt
      obtain ⟨f0, f1, f2, f3⟩ : _ ∧ _ ∧ _ ∧ _ := box_cells TF.out
      go_wp2_with fail
      obtain ⟨US, UW, UF, UD, UC, hSy⟩ : ∃ (A : List (List Int)) (B : List (Int × List Int)) (C : Int) (D : Bool) (E : Int), syncD ⟨RS, RW, RF, RD'⟩ = (⟨A, B, C, D⟩, E) := ⟨_, _, _, _, _, rfl⟩
      refine (impl_Sync cF eF RFd.out LF.out.1 LF.out.2 (by omega) ((HV.out.below HB.out).up HB.out.size) hSy).mono ?_
      rintro e w8 ⟨aH, h1, cH, dH, h2, eH, k1, k2, rfl, o8, b8⟩
      replace HB := hid (HB.out.trans (b8.mono HB.out.size))
      replace RD := hid (RD.out.below b8 (Nat.le_refl _))
      replace RZ := hid (RZ.out.below b8 (Nat.le_refl _))
      replace TD := hid ((b8.block _ (Array.getElem?_eq_some_iff.1 TD.out).1).trans TD.out)
      replace RK := hid (RK.out.below b8 (Nat.le_refl _))
      replace RE := hid (RE.out.below b8 (Nat.le_refl _))
      replace TE := hid ((b8.block _ (Array.getElem?_eq_some_iff.1 TE.out).1).trans TE.out)
      replace RFd := hid (RFd.out.below b8 (Nat.le_refl _))
      replace TF := hid ((b8.block _ (Array.getElem?_eq_some_iff.1 TF.out).1).trans TF.out)
      replace RG := hid (RG.out.below b8 (Nat.le_refl _))
      replace TG := hid ((b8.block _ (Array.getElem?_eq_some_iff.1 TG.out).1).trans TG.out)
      have RH := hid o8.rd
      have LH := hid (And.intro k1 k2)
      clear b8 o8 k1 k2 f0 f1 f2 f3
      have THn := hid (heap_alloc_new w8 (.cells #[.slice aH h1 cH, .slice dH h2 eH, .int .i64 UF, .bool UD] 27))
      have bA := Below.alloc1 w8 (.cells #[.slice aH h1 cH, .slice dH h2 eH, .int .i64 UF, .bool UD] 27)
      replace HB := hid (HB.out.trans (bA.mono HB.out.size))
      replace RD := hid (RD.out.below bA (Nat.le_refl _))
      replace RZ := hid (RZ.out.below bA (Nat.le_refl _))
      replace TD := hid ((bA.block _ (Array.getElem?_eq_some_iff.1 TD.out).1).trans TD.out)
      replace RK := hid (RK.out.below bA (Nat.le_refl _))
      replace RE := hid (RE.out.below bA (Nat.le_refl _))
      replace TE := hid ((bA.block _ (Array.getElem?_eq_some_iff.1 TE.out).1).trans TE.out)
      replace RFd := hid (RFd.out.below bA (Nat.le_refl _))
      replace TF := hid ((bA.block _ (Array.getElem?_eq_some_iff.1 TF.out).1).trans TF.out)
      replace RG := hid (RG.out.below bA (Nat.le_refl _))
      replace TG := hid ((bA.block _ (Array.getElem?_eq_some_iff.1 TG.out).1).trans TG.out)
      replace RH := hid (RH.out.below bA (Nat.le_refl _))
      have TH := THn
      clear THn bA
      obtain ⟨f0, f1, f2, f3⟩ : _ ∧ _ ∧ _ ∧ _ := box_cells TF.out
      obtain ⟨l0, l1, l2, l3⟩ : _ ∧ _ ∧ _ ∧ _ := box_cells TH.out
      rcases HW.out.sync hSy with ⟨hUC, hz⟩ | ⟨hUC, hcr, hUF, hre⟩
      · subst hz
        go_wp2_with fail
        go_ret
        exact ⟨rfl, HB.out⟩
      · subst hUC
        clear hSy
        go_wp2_with fail
        generalize w8.alloc (.cells #[.slice aH h1 cH, .slice dH h2 eH, .int .i64 UF, .bool UD] 27) = W8 at *
        generalize w8.heap.size = pH at *
        clear f0 f1 f2 f3 l0 l1 l2 l3
        have HRE := hid hre
        refine (impl_Crash cH eH RH.out LH.out.1 LH.out.2 0 (aK := none) (nK := 0) (ks := []) ⟨rfl, .inl rfl⟩ hcr).mono ?_
        rintro e w9 ⟨aJ, j1, cJ, dJ, j2, eJ, k1, k2, rfl, o9, b9⟩
        obtain rfl : 0 = j2 := by simpa using k2
        replace HB := hid (HB.out.trans (b9.mono HB.out.size))
        replace RD := hid (RD.out.below b9 (Nat.le_refl _))
        replace RZ := hid (RZ.out.below b9 (Nat.le_refl _))
        replace TD := hid ((b9.block _ (Array.getElem?_eq_some_iff.1 TD.out).1).trans TD.out)
        replace RK := hid (RK.out.below b9 (Nat.le_refl _))
        replace RE := hid (RE.out.below b9 (Nat.le_refl _))
        replace TE := hid ((b9.block _ (Array.getElem?_eq_some_iff.1 TE.out).1).trans TE.out)
        replace RFd := hid (RFd.out.below b9 (Nat.le_refl _))
        replace TF := hid ((b9.block _ (Array.getElem?_eq_some_iff.1 TF.out).1).trans TF.out)
        replace RG := hid (RG.out.below b9 (Nat.le_refl _))
        replace TG := hid ((b9.block _ (Array.getElem?_eq_some_iff.1 TG.out).1).trans TG.out)
        replace RH := hid (RH.out.below b9 (Nat.le_refl _))
        replace TH := hid ((b9.block _ (Array.getElem?_eq_some_iff.1 TH.out).1).trans TH.out)
        have RJ := hid o9.rd
        have LJ := hid k1
        clear b9 o9 k1 k2 hcr
        have TJ2n := hid (heap_alloc_new w9 (.cells #[.slice aJ j1 cJ, .slice dJ 0 eJ, .int .i64 (-1), .bool false] 27))
        have bA := Below.alloc1 w9 (.cells #[.slice aJ j1 cJ, .slice dJ 0 eJ, .int .i64 (-1), .bool false] 27)
        replace HB := hid (HB.out.trans (bA.mono HB.out.size))
        replace RD := hid (RD.out.below bA (Nat.le_refl _))
        replace RZ := hid (RZ.out.below bA (Nat.le_refl _))
        replace TD := hid ((bA.block _ (Array.getElem?_eq_some_iff.1 TD.out).1).trans TD.out)
        replace RK := hid (RK.out.below bA (Nat.le_refl _))
        replace RE := hid (RE.out.below bA (Nat.le_refl _))
        replace TE := hid ((bA.block _ (Array.getElem?_eq_some_iff.1 TE.out).1).trans TE.out)
        replace RFd := hid (RFd.out.below bA (Nat.le_refl _))
        replace TF := hid ((bA.block _ (Array.getElem?_eq_some_iff.1 TF.out).1).trans TF.out)
        replace RG := hid (RG.out.below bA (Nat.le_refl _))
        replace TG := hid ((bA.block _ (Array.getElem?_eq_some_iff.1 TG.out).1).trans TG.out)
        replace RH := hid (RH.out.below bA (Nat.le_refl _))
        replace TH := hid ((bA.block _ (Array.getElem?_eq_some_iff.1 TH.out).1).trans TH.out)
        replace RJ := hid (RJ.out.below bA (Nat.le_refl _))
        have TJ2 := TJ2n
        clear TJ2n bA
        obtain ⟨l0, l1, l2, l3⟩ : _ ∧ _ ∧ _ ∧ _ := box_cells TJ2.out
        go_wp2_with fail
        generalize w9.alloc (.cells #[.slice aJ j1 cJ, .slice dJ 0 eJ, .int .i64 (-1), .bool false] 27) = W9 at *
        generalize w9.heap.size = pJ2 at *
        clear l0 l1 l2 l3
        refine (impl_Read cJ eJ x RJ.out LJ.out rfl HRE.out).mono ?_
        rintro e w10 ⟨v, rfl, o10, b10⟩
        replace HB := hid (HB.out.trans (b10.mono HB.out.size))
        replace RD := hid (RD.out.below b10 (Nat.le_refl _))
        replace RZ := hid (RZ.out.below b10 (Nat.le_refl _))
        replace TD := hid ((b10.block _ (Array.getElem?_eq_some_iff.1 TD.out).1).trans TD.out)
        replace RK := hid (RK.out.below b10 (Nat.le_refl _))
        replace RE := hid (RE.out.below b10 (Nat.le_refl _))
        replace TE := hid ((b10.block _ (Array.getElem?_eq_some_iff.1 TE.out).1).trans TE.out)
        replace RFd := hid (RFd.out.below b10 (Nat.le_refl _))
        replace TF := hid ((b10.block _ (Array.getElem?_eq_some_iff.1 TF.out).1).trans TF.out)
        replace RG := hid (RG.out.below b10 (Nat.le_refl _))
        replace TG := hid ((b10.block _ (Array.getElem?_eq_some_iff.1 TG.out).1).trans TG.out)
        replace RH := hid (RH.out.below b10 (Nat.le_refl _))
        replace TH := hid ((b10.block _ (Array.getElem?_eq_some_iff.1 TH.out).1).trans TH.out)
        replace RJ := hid (RJ.out.below b10 (Nat.le_refl _))
        replace TJ2 := hid ((b10.block _ (Array.getElem?_eq_some_iff.1 TJ2.out).1).trans TJ2.out)
        obtain ⟨aB2, cB2, rfl, rb, -⟩ := Reads.own o10 RZ.out.bd
        have c1 := rb.str cB2 22 Tryd.underlying22 Tryd.underlying5 Tryd.underlying9
        have c2 := RZ.out.str cD 22 Tryd.underlying22 Tryd.underlying5 Tryd.underlying9
        clear o10 b10 rb
        go_wp2_with fail
        go_ret
        exact ⟨rfl, HB.out⟩
end Go.Proofs.YtnnnehjlegjejaaDoor
