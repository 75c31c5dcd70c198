/- FnUnseen's walk. Conditions: none but what the argument's type says. -/
import Derived.Test.YtemhmlikfiknlaaXh9
import Derived.Test.YtemhmlikfiknlaaXe9
import Derived.Test.YtemhmlikfiknlaaXd9
import Derived.Test.YtemhmlikfiknlaaRk3
import Derived.Deep.RegionHeld3
namespace Go.Proofs.Ytemhmlikfiknlaa
open Go.RowKit
set_option maxRecDepth 100000

theorem law_big9 (ad : Option Addr) (n cap : Nat) (w : World) :
    Calls Try.prog 9 #[.slice ad n cap] w fun e w' => e = .returned (.bool (decide ((1048576 : Int) < (n : Int)))) ∧ w' = w := by
  go_enter Try.func9, Try.ntmps9
  go_wp2
  go_ret
  exact ⟨rfl, rfl⟩
/-- A pair of cells. -/
structure CellS (w : World) (b i : Nat) (A : Int) (v : Value) : Prop where
  c0 : w.cell? ⟨b, i, none⟩ = some (.int .i64 A)
  c1 : w.cell? ⟨b, i + 1, none⟩ = some v
theorem CellS.below {w w' : World} {b i : Nat} {A : Int} {v : Value} (h : CellS w b i A v) {B : Nat} (hb : Below B w w') (hB : w.heap.size ≤ B) : CellS w' b i A v := by
  have hlt := World.block_lt_of_cell? w _ h.c0
  refine ⟨?_, ?_⟩
  · rw [hb.cell (p := ⟨b, i, none⟩) (by simp at hlt ⊢; omega)]; exact h.c0
  · rw [hb.cell (p := ⟨b, i + 1, none⟩) (by simp at hlt ⊢; omega)]; exact h.c1
theorem getD_mem9 {ws : List (Int × List Int)} {k : Nat} (h : k < ws.length) : ws.getD k sn0 ∈ ws := by
  rw [List.getD_eq_getElem?_getD, List.getElem?_eq_getElem h]; exact List.getElem_mem h

set_option maxHeartbeats 3200000 in
theorem lawUnseen {a : Option Addr} {n : Nat} (cap : Nat) {zs : List Int} {w : World} (h : Reads w a n zs) (hn0 : n ≤ maxLen) :
    Calls Try.prog 3 #[.slice a n cap] w fun e w' => e = .returned (.bool true) ∧ Below w.heap.size w w' := by
  unfold maxLen at hn0
  by_cases hbig : (1048576 : Int) < (n : Int)
  · go_enter Try.func3, Try.ntmps3
    go_wp2_with fail
    refine (law_big9 a n cap w).mono ?_
    rintro e w1 ⟨rfl, e1⟩
    subst w1
    rw [decide_eq_true hbig]
    go_wp2_with fail
    go_ret
    exact ⟨rfl, Below.refl _ _⟩
  have hn : n ≤ 1048576 := by omega
  have HR := hid h
  clear h
  go_enter Try.func3, Try.ntmps3
  go_wp2_with fail
  refine (law_big9 a n cap w).mono ?_
  rintro e w1 ⟨rfl, e1⟩
  subst w1
  rw [decide_eq_false (show ¬ (1048576 : Int) < (n : Int) by omega)]
  clear hbig
  go_wp2_with fail
  refine (drawHorizon cap HR.out hn).mono ?_
  rintro e w1 ⟨an, m, cn, ws, nx, rfl, rn, lm, hm, hbd, hsm, b⟩
  have HN := hid rn
  have HB := hid b
  have LM := hid lm
  have HBD := hid hbd
  have HSM := hid hsm
  replace HR := hid (HR.out.below b (Nat.le_refl _))
  clear b rn hbd hsm
  have hn1 := hm
  go_wp2_with fail
  refine (drawDead cap HR.out hn).mono ?_
  rintro e w2 ⟨al, nl, cl, l, X, Y, Z, rfl, rl, hnl, hX, hY, b⟩
  have HL := hid rl
  replace HN := hid (HN.out.below b (Nat.le_refl _))
  replace HB := hid (HB.out.trans (b.mono HB.out.size))
  clear b rl HR
  have HS5 := hid (fun i => show (ws.getD i sn0).2.length ≤ 2097152 from by
    by_cases hi : i < ws.length
    · have := HSM.out _ (getD_mem9 hi); omega
    · rw [List.getD_eq_getElem?_getD, List.getElem?_eq_none (by omega)]; simp [sn0])
  obtain ⟨H, hH⟩ : ∃ H, horP ws nx = H := ⟨_, rfl⟩
  have HH := hid hH
  have hq : (H != H) = false := by simp
  go_wp2_with fail
  refine (impl_Horizon cn HN.out lm (by omega) HS5.out nx).mono ?_
  rintro e w3 ⟨rfl, b⟩
  rw [HH.out]
  replace HL := hid (HL.out.below b (Nat.le_refl _))
  replace HN := hid (HN.out.below b (Nat.le_refl _))
  replace HB := hid (HB.out.trans (b.mono HB.out.size))
  clear b
  go_wp2_with fail
  refine (spec_Horizon cn HN.out lm (by omega) HS5.out nx).mono ?_
  rintro e w4 ⟨rfl, b⟩
  rw [HH.out]
  replace HL := hid (HL.out.below b (Nat.le_refl _))
  replace HN := hid (HN.out.below b (Nat.le_refl _))
  replace HB := hid (HB.out.trans (b.mono HB.out.size))
  clear b
  by_cases h0 : H = 0
  · clear hH HH
    subst h0
    go_wp2_with fail
    go_ret
    exact ⟨rfl, HB.out⟩
  have g0 : (H == 0) = false := by simpa using h0
  have HLE := hid (fun k (hk : k < ws.length) => horP_le (ps := ws) (next := nx) (by rw [hH]; exact h0) (getD_mem9 hk))
  have HUN := hid (fun k (hk : k < ws.length) => unseen (ps := ws) (next := nx) (l := l) (x := X) (y := Y) (by rw [hH]; exact h0) (getD_mem9 hk))
  rw [hH] at HLE HUN
  clear hH HH h0
  go_wp2_with fail
  clear hq g0
  go_loopw [10, 11] (fun i _ wr => ∃ k : Nat, k ≤ m ∧ i = .int .i64 k ∧ Hid (Below w.heap.size w wr) ∧ Hid (ReadsN wr an ws) ∧ Hid (ReadsI wr al nl l)) (fun i _ _ => m - (intOf i).toNat)
  case atStart => exact ⟨0, Nat.zero_le _, rfl, HB, HN, HL⟩
  case round =>
    clear HB HN HL
    obtain ⟨k, hk, rfl, HB, HN, HL⟩ := hrel
    by_cases hlt : k < m
    · have hlt' : (k : Int) < (m : Int) := by omega
      have hk0 : (0 : Int) ≤ (k : Int) := by omega
      rcases HN.out.cells with h0 | ⟨b, off, rfl, hc⟩
      · have := LM.out; omega
      have hkw : k < ws.length := by rw [LM.out]; exact hlt
      obtain ⟨hca, v, hcx, ae, ce, rfl, hr, _, _⟩ := hc k hkw
      have hle := HLE.out k hkw
      have hun := HUN.out k hkw
      have hb1 := HBD.out _ (getD_mem9 hkw)
      have hs1 := HSM.out _ (getD_mem9 hkw)
      clear hc
      generalize ws.getD k sn0 = p at hca hcx hr hle hun hb1 hs1
      obtain ⟨A, ze⟩ := p
      obtain ⟨q, hq⟩ : ∃ q, ze.length = q := ⟨_, rfl⟩
      simp only at hca hcx hr hle hun hb1 hs1
      rw [hq] at hcx hr hs1
      have HE := hid (CellS.mk hca hcx)
      have HZ := hid hr
      have HSf := hid (sees_self (l := l) hle.1)
      have hAH : ¬ A < H := by have := hle.2.1; omega
      have HV := hid hun
      obtain ⟨d, hd⟩ : ∃ d, deadB l X Y H = d := ⟨_, rfl⟩
      rw [hd] at HV
      have HD := hid hd
      clear hq hd hle hun hr hkw
      go_wp2_with fail
      clear hca hcx
      refine (impl_Dead cl HL.out (by omega) X Y H).mono ?_
      rintro e v1 ⟨rfl, e1⟩
      subst v1
      rw [HD.out]
      obtain ⟨hca, hcx⟩ := HE.out
      cases d with
      | false =>
        go_wp2_with fail
        clear hca hcx
        replace HN := hid (HN.out.below ((Still.drew wr).below _) (Nat.le_refl _))
        replace HL := hid (HL.out.below ((Still.drew wr).below _) (Nat.le_refl _))
        replace HE := hid (HE.out.below ((Still.drew wr).below _) (Nat.le_refl _))
        replace HZ := hid (HZ.out.below ((Still.drew wr).below _) (Nat.le_refl _))
        replace HB := hid (HB.out.trans (((Still.drew wr).below _).mono HB.out.size))
        refine region_K 99 (fun W => W.cell? ⟨b, off + k * 2, none⟩ = some (.int .i64 A) ∧ W.cell? ⟨b, off + k * 2 + 1, none⟩ = some (.slice ae q ce)) (by kernel_rfl) ?_ (fun hHeld => ?_)
        · exact ⟨HE.out.c0, HE.out.c1⟩
        generalize wr.drew = v0 at *
        refine anyK_take2 (i := 0) (v := ?v1) rfl (by kernel_rfl) (by kernel_rfl) (by kernel_rfl) (by rfl) (fun _ _ _ h => h) (by rfl) hHeld ?hy1 (some 74) (by rfl) ?rest1
        case hy1 => (intro W hSw; obtain ⟨r0, r1⟩ := hSw; go_simp; (try with_reducible rfl))
        try simp only [Act.put]
        try simp only [List.setIfInBounds_toArray]
        try simp only [List.set_cons_succ, List.set_cons_zero]
        refine anyK_take2 (i := 1) (v := ?v2) rfl (by kernel_rfl) (by kernel_rfl) (by kernel_rfl) (by rfl) (fun _ _ _ h => h) (by rfl) hHeld ?hy2 (some 75) (by rfl) ?rest2
        case hy2 => (intro W hSw; obtain ⟨r0, r1⟩ := hSw; go_simp; (try with_reducible rfl))
        try simp only [Act.put]
        try simp only [List.setIfInBounds_toArray]
        try simp only [List.set_cons_succ, List.set_cons_zero]
        refine anyK_take2 (i := 2) (v := ?v3) rfl (by kernel_rfl) (by kernel_rfl) (by kernel_rfl) (by rfl) (fun _ _ _ h => h) (by rfl) hHeld ?hy3 (some 76) (by rfl) ?rest3
        case hy3 => (intro W hSw; obtain ⟨r0, r1⟩ := hSw; go_simp; (try with_reducible rfl))
        try simp only [Act.put]
        try simp only [List.setIfInBounds_toArray]
        try simp only [List.set_cons_succ, List.set_cons_zero]
        refine anyK_take2 (i := 3) (v := ?v4) rfl (by kernel_rfl) (by kernel_rfl) (by kernel_rfl) (by rfl) (fun _ _ _ h => h) (by rfl) hHeld ?hy4 (some 77) (by rfl) ?rest4
        case hy4 => (intro W hSw; obtain ⟨r0, r1⟩ := hSw; go_simp; (try with_reducible rfl))
        try simp only [Act.put]
        try simp only [List.setIfInBounds_toArray]
        try simp only [List.set_cons_succ, List.set_cons_zero]
        refine anyK_take2 (i := 5) (v := ?v5) rfl (by kernel_rfl) (by kernel_rfl) (by kernel_rfl) (by rfl) (fun _ _ _ h => h) (by rfl) hHeld ?hy5 (some 79) (by rfl) ?rest5
        case hy5 => (intro W hSw; obtain ⟨r0, r1⟩ := hSw; go_simp; (try with_reducible rfl))
        try simp only [Act.put]
        try simp only [List.setIfInBounds_toArray]
        try simp only [List.set_cons_succ, List.set_cons_zero]
        refine anyK_step (i := 4) (by kernel_rfl) rfl (fun KP hK => ?_)
        go_simp
        refine (spec_Dead cl HL.out X Y H).mono ?_
        rintro e v1 ⟨rfl, e1⟩
        subst v1
        rw [HD.out]
        go_wp2_with fail
        refine hK.out _ _ ?_ (fun hH2 => ?_)
        · exact ⟨HE.out.c0, HE.out.c1⟩
        clear hK KP hHeld
        have hHeld := hH2
        clear hH2
        try simp only [Act.put]
        try simp only [List.setIfInBounds_toArray]
        try simp only [List.set_cons_succ, List.set_cons_zero]
        refine anyK_take2 (i := 6) (v := ?v6) rfl (by kernel_rfl) (by kernel_rfl) (by kernel_rfl) (by rfl) (fun _ _ _ h => h) (by rfl) hHeld ?hy6 (some 80) (by rfl) ?rest6
        case hy6 => (intro W hSw; obtain ⟨r0, r1⟩ := hSw; go_simp; (try with_reducible rfl))
        try simp only [Act.put]
        try simp only [List.setIfInBounds_toArray]
        try simp only [List.set_cons_succ, List.set_cons_zero]
        refine anyK_take2 (i := 7) (v := ?v7) rfl (by kernel_rfl) (by kernel_rfl) (by kernel_rfl) (by rfl) (fun _ _ _ h => h) (by rfl) hHeld ?hy7 (some 81) (by rfl) ?rest7
        case hy7 => (intro W hSw; obtain ⟨r0, r1⟩ := hSw; go_simp; (try with_reducible rfl))
        try simp only [Act.put]
        try simp only [List.setIfInBounds_toArray]
        try simp only [List.set_cons_succ, List.set_cons_zero]
        refine anyK_take2 (i := 8) (v := ?v8) rfl (by kernel_rfl) (by kernel_rfl) (by kernel_rfl) (by rfl) (fun _ _ _ h => h) (by rfl) hHeld ?hy8 (some 82) (by rfl) ?rest8
        case hy8 => (intro W hSw; obtain ⟨r0, r1⟩ := hSw; go_simp; (try with_reducible rfl))
        try simp only [Act.put]
        try simp only [List.setIfInBounds_toArray]
        try simp only [List.set_cons_succ, List.set_cons_zero]
        refine anyK_take2 (i := 9) (v := ?v9) rfl (by kernel_rfl) (by kernel_rfl) (by kernel_rfl) (by rfl) (fun _ _ _ h => h) (by rfl) hHeld ?hy9 (some 83) (by rfl) ?rest9
        case hy9 => (intro W hSw; obtain ⟨r0, r1⟩ := hSw; go_simp; (try with_reducible rfl))
        try simp only [Act.put]
        try simp only [List.setIfInBounds_toArray]
        try simp only [List.set_cons_succ, List.set_cons_zero]
        refine anyK_take2 (i := 10) (v := ?v10) rfl (by kernel_rfl) (by kernel_rfl) (by kernel_rfl) (by rfl) (fun _ _ _ h => h) (by rfl) hHeld ?hy10 (some 84) (by rfl) ?rest10
        case hy10 => (intro W hSw; obtain ⟨r0, r1⟩ := hSw; go_simp; (try with_reducible rfl))
        try simp only [Act.put]
        try simp only [List.setIfInBounds_toArray]
        try simp only [List.set_cons_succ, List.set_cons_zero]
        refine anyK_take2 (i := 11) (v := ?v11) rfl (by kernel_rfl) (by kernel_rfl) (by kernel_rfl) (by rfl) (fun _ _ _ h => h) (by rfl) hHeld ?hy11 (some 85) (by rfl) ?rest11
        case hy11 => (intro W hSw; obtain ⟨r0, r1⟩ := hSw; go_simp; (try with_reducible rfl))
        try simp only [Act.put]
        try simp only [List.setIfInBounds_toArray]
        try simp only [List.set_cons_succ, List.set_cons_zero]
        refine anyK_take2 (i := 12) (v := ?v12) rfl (by kernel_rfl) (by kernel_rfl) (by kernel_rfl) (by rfl) (fun _ _ _ h => h) (by rfl) hHeld ?hy12 (some 86) (by rfl) ?rest12
        case hy12 => (intro W hSw; obtain ⟨r0, r1⟩ := hSw; go_simp; (try with_reducible rfl))
        try simp only [Act.put]
        try simp only [List.setIfInBounds_toArray]
        try simp only [List.set_cons_succ, List.set_cons_zero]
        refine anyK_take2 (i := 13) (v := ?v13) rfl (by kernel_rfl) (by kernel_rfl) (by kernel_rfl) (by rfl) (fun _ _ _ h => h) (by rfl) hHeld ?hy13 (some 87) (by rfl) ?rest13
        case hy13 => (intro W hSw; obtain ⟨r0, r1⟩ := hSw; go_simp; (try with_reducible rfl))
        try simp only [Act.put]
        try simp only [List.setIfInBounds_toArray]
        try simp only [List.set_cons_succ, List.set_cons_zero]
        refine anyK_take2 (i := 14) (v := ?v14) rfl (by kernel_rfl) (by kernel_rfl) (by kernel_rfl) (by rfl) (fun _ _ _ h => h) (by rfl) hHeld ?hy14 (some 88) (by rfl) ?rest14
        case hy14 => (intro W hSw; obtain ⟨r0, r1⟩ := hSw; go_simp; (try with_reducible rfl))
        try simp only [Act.put]
        try simp only [List.setIfInBounds_toArray]
        try simp only [List.set_cons_succ, List.set_cons_zero]
        refine anyK_take2 (i := 15) (v := ?v15) rfl (by kernel_rfl) (by kernel_rfl) (by kernel_rfl) (by rfl) (fun _ _ _ h => h) (by rfl) hHeld ?hy15 (some 89) (by rfl) ?rest15
        case hy15 => (intro W hSw; obtain ⟨r0, r1⟩ := hSw; go_simp; (try with_reducible rfl))
        try simp only [Act.put]
        try simp only [List.setIfInBounds_toArray]
        try simp only [List.set_cons_succ, List.set_cons_zero]
        refine anyK_take2 (i := 16) (v := ?v16) rfl (by kernel_rfl) (by kernel_rfl) (by kernel_rfl) (by rfl) (fun _ _ _ h => h) (by rfl) hHeld ?hy16 (some 90) (by rfl) ?rest16
        case hy16 => (intro W hSw; obtain ⟨r0, r1⟩ := hSw; go_simp; (try with_reducible rfl))
        try simp only [Act.put]
        try simp only [List.setIfInBounds_toArray]
        try simp only [List.set_cons_succ, List.set_cons_zero]
        refine anyK_take2 (i := 17) (v := ?v17) rfl (by kernel_rfl) (by kernel_rfl) (by kernel_rfl) (by rfl) (fun _ _ _ h => h) (by rfl) hHeld ?hy17 (some 91) (by rfl) ?rest17
        case hy17 => (intro W hSw; obtain ⟨r0, r1⟩ := hSw; go_simp; (try with_reducible rfl))
        try simp only [Act.put]
        try simp only [List.setIfInBounds_toArray]
        try simp only [List.set_cons_succ, List.set_cons_zero]
        refine anyK_step (i := 18) (by kernel_rfl) rfl (fun KP hK => ?_)
        go_simp
        refine (impl_Sees A ce HZ.out (by omega) cl HL.out (by omega) A (by omega)).mono ?_
        rintro e v1 ⟨rfl, b1⟩
        rw [HSf.out]
        replace HN := hid (HN.out.below b1 (Nat.le_refl _))
        replace HL := hid (HL.out.below b1 (Nat.le_refl _))
        replace HE := hid (HE.out.below b1 (Nat.le_refl _))
        replace HZ := hid (HZ.out.below b1 (Nat.le_refl _))
        replace HB := hid (HB.out.trans (b1.mono HB.out.size))
        clear b1
        go_wp2_with fail
        refine hK.out _ _ ?_ (fun hH2 => ?_)
        · exact ⟨HE.out.c0, HE.out.c1⟩
        clear hK KP hHeld
        have hHeld := hH2
        clear hH2
        try simp only [Act.put]
        try simp only [List.setIfInBounds_toArray]
        try simp only [List.set_cons_succ, List.set_cons_zero]
        refine anyK_take2 (i := 19) (v := ?v18) rfl (by kernel_rfl) (by kernel_rfl) (by kernel_rfl) (by rfl) (fun _ _ _ h => h) (by rfl) hHeld ?hy18 (some 93) (by rfl) ?rest18
        case hy18 => (intro W hSw; obtain ⟨r0, r1⟩ := hSw; go_simp; (try with_reducible rfl))
        try simp only [Act.put]
        try simp only [List.setIfInBounds_toArray]
        try simp only [List.set_cons_succ, List.set_cons_zero]
        refine anyK_take2 (i := 20) (v := ?v19) rfl (by kernel_rfl) (by kernel_rfl) (by kernel_rfl) (by rfl) (fun _ _ _ h => h) (by rfl) hHeld ?hy19 (some 94) (by rfl) ?rest19
        case hy19 => (intro W hSw; obtain ⟨r0, r1⟩ := hSw; go_simp; (try with_reducible rfl))
        try simp only [Act.put]
        try simp only [List.setIfInBounds_toArray]
        try simp only [List.set_cons_succ, List.set_cons_zero]
        refine anyK_done (by kernel_rfl) ?_ _
        clear hHeld
        go_wp2_with fail
        go_roundw
        case rel => exact ⟨k + 1, by omega, by go_num, HB, HN, HL⟩
        case measure => simp [intOf]; omega
      | true =>
        by_cases hAX : A = X
        · have gA : (A != X) = false := by simpa using hAX
          clear hAX
          go_wp2_with fail
          clear hca hcx gA
          replace HN := hid (HN.out.below ((Still.drew wr).below _) (Nat.le_refl _))
          replace HL := hid (HL.out.below ((Still.drew wr).below _) (Nat.le_refl _))
          replace HE := hid (HE.out.below ((Still.drew wr).below _) (Nat.le_refl _))
          replace HZ := hid (HZ.out.below ((Still.drew wr).below _) (Nat.le_refl _))
          replace HB := hid (HB.out.trans (((Still.drew wr).below _).mono HB.out.size))
          refine region_K 99 (fun W => W.cell? ⟨b, off + k * 2, none⟩ = some (.int .i64 A) ∧ W.cell? ⟨b, off + k * 2 + 1, none⟩ = some (.slice ae q ce)) (by kernel_rfl) ?_ (fun hHeld => ?_)
          · exact ⟨HE.out.c0, HE.out.c1⟩
          generalize wr.drew = v0 at *
          refine anyK_take2 (i := 0) (v := ?v20) rfl (by kernel_rfl) (by kernel_rfl) (by kernel_rfl) (by rfl) (fun _ _ _ h => h) (by rfl) hHeld ?hy20 (some 74) (by rfl) ?rest20
          case hy20 => (intro W hSw; obtain ⟨r0, r1⟩ := hSw; go_simp; (try with_reducible rfl))
          try simp only [Act.put]
          try simp only [List.setIfInBounds_toArray]
          try simp only [List.set_cons_succ, List.set_cons_zero]
          refine anyK_take2 (i := 1) (v := ?v21) rfl (by kernel_rfl) (by kernel_rfl) (by kernel_rfl) (by rfl) (fun _ _ _ h => h) (by rfl) hHeld ?hy21 (some 75) (by rfl) ?rest21
          case hy21 => (intro W hSw; obtain ⟨r0, r1⟩ := hSw; go_simp; (try with_reducible rfl))
          try simp only [Act.put]
          try simp only [List.setIfInBounds_toArray]
          try simp only [List.set_cons_succ, List.set_cons_zero]
          refine anyK_take2 (i := 2) (v := ?v22) rfl (by kernel_rfl) (by kernel_rfl) (by kernel_rfl) (by rfl) (fun _ _ _ h => h) (by rfl) hHeld ?hy22 (some 76) (by rfl) ?rest22
          case hy22 => (intro W hSw; obtain ⟨r0, r1⟩ := hSw; go_simp; (try with_reducible rfl))
          try simp only [Act.put]
          try simp only [List.setIfInBounds_toArray]
          try simp only [List.set_cons_succ, List.set_cons_zero]
          refine anyK_take2 (i := 3) (v := ?v23) rfl (by kernel_rfl) (by kernel_rfl) (by kernel_rfl) (by rfl) (fun _ _ _ h => h) (by rfl) hHeld ?hy23 (some 77) (by rfl) ?rest23
          case hy23 => (intro W hSw; obtain ⟨r0, r1⟩ := hSw; go_simp; (try with_reducible rfl))
          try simp only [Act.put]
          try simp only [List.setIfInBounds_toArray]
          try simp only [List.set_cons_succ, List.set_cons_zero]
          refine anyK_take2 (i := 5) (v := ?v24) rfl (by kernel_rfl) (by kernel_rfl) (by kernel_rfl) (by rfl) (fun _ _ _ h => h) (by rfl) hHeld ?hy24 (some 79) (by rfl) ?rest24
          case hy24 => (intro W hSw; obtain ⟨r0, r1⟩ := hSw; go_simp; (try with_reducible rfl))
          try simp only [Act.put]
          try simp only [List.setIfInBounds_toArray]
          try simp only [List.set_cons_succ, List.set_cons_zero]
          refine anyK_step (i := 4) (by kernel_rfl) rfl (fun KP hK => ?_)
          go_simp
          refine (spec_Dead cl HL.out X Y H).mono ?_
          rintro e v1 ⟨rfl, e1⟩
          subst v1
          rw [HD.out]
          go_wp2_with fail
          refine hK.out _ _ ?_ (fun hH2 => ?_)
          · exact ⟨HE.out.c0, HE.out.c1⟩
          clear hK KP hHeld
          have hHeld := hH2
          clear hH2
          try simp only [Act.put]
          try simp only [List.setIfInBounds_toArray]
          try simp only [List.set_cons_succ, List.set_cons_zero]
          refine anyK_take2 (i := 6) (v := ?v25) rfl (by kernel_rfl) (by kernel_rfl) (by kernel_rfl) (by rfl) (fun _ _ _ h => h) (by rfl) hHeld ?hy25 (some 80) (by rfl) ?rest25
          case hy25 => (intro W hSw; obtain ⟨r0, r1⟩ := hSw; go_simp; (try with_reducible rfl))
          try simp only [Act.put]
          try simp only [List.setIfInBounds_toArray]
          try simp only [List.set_cons_succ, List.set_cons_zero]
          refine anyK_take2 (i := 7) (v := ?v26) rfl (by kernel_rfl) (by kernel_rfl) (by kernel_rfl) (by rfl) (fun _ _ _ h => h) (by rfl) hHeld ?hy26 (some 81) (by rfl) ?rest26
          case hy26 => (intro W hSw; obtain ⟨r0, r1⟩ := hSw; go_simp; (try with_reducible rfl))
          try simp only [Act.put]
          try simp only [List.setIfInBounds_toArray]
          try simp only [List.set_cons_succ, List.set_cons_zero]
          refine anyK_take2 (i := 8) (v := ?v27) rfl (by kernel_rfl) (by kernel_rfl) (by kernel_rfl) (by rfl) (fun _ _ _ h => h) (by rfl) hHeld ?hy27 (some 82) (by rfl) ?rest27
          case hy27 => (intro W hSw; obtain ⟨r0, r1⟩ := hSw; go_simp; (try with_reducible rfl))
          try simp only [Act.put]
          try simp only [List.setIfInBounds_toArray]
          try simp only [List.set_cons_succ, List.set_cons_zero]
          refine anyK_take2 (i := 9) (v := ?v28) rfl (by kernel_rfl) (by kernel_rfl) (by kernel_rfl) (by rfl) (fun _ _ _ h => h) (by rfl) hHeld ?hy28 (some 83) (by rfl) ?rest28
          case hy28 => (intro W hSw; obtain ⟨r0, r1⟩ := hSw; go_simp; (try with_reducible rfl))
          try simp only [Act.put]
          try simp only [List.setIfInBounds_toArray]
          try simp only [List.set_cons_succ, List.set_cons_zero]
          refine anyK_take2 (i := 10) (v := ?v29) rfl (by kernel_rfl) (by kernel_rfl) (by kernel_rfl) (by rfl) (fun _ _ _ h => h) (by rfl) hHeld ?hy29 (some 84) (by rfl) ?rest29
          case hy29 => (intro W hSw; obtain ⟨r0, r1⟩ := hSw; go_simp; (try with_reducible rfl))
          try simp only [Act.put]
          try simp only [List.setIfInBounds_toArray]
          try simp only [List.set_cons_succ, List.set_cons_zero]
          refine anyK_take2 (i := 11) (v := ?v30) rfl (by kernel_rfl) (by kernel_rfl) (by kernel_rfl) (by rfl) (fun _ _ _ h => h) (by rfl) hHeld ?hy30 (some 85) (by rfl) ?rest30
          case hy30 => (intro W hSw; obtain ⟨r0, r1⟩ := hSw; go_simp; (try with_reducible rfl))
          try simp only [Act.put]
          try simp only [List.setIfInBounds_toArray]
          try simp only [List.set_cons_succ, List.set_cons_zero]
          refine anyK_take2 (i := 12) (v := ?v31) rfl (by kernel_rfl) (by kernel_rfl) (by kernel_rfl) (by rfl) (fun _ _ _ h => h) (by rfl) hHeld ?hy31 (some 86) (by rfl) ?rest31
          case hy31 => (intro W hSw; obtain ⟨r0, r1⟩ := hSw; go_simp; (try with_reducible rfl))
          try simp only [Act.put]
          try simp only [List.setIfInBounds_toArray]
          try simp only [List.set_cons_succ, List.set_cons_zero]
          refine anyK_take2 (i := 13) (v := ?v32) rfl (by kernel_rfl) (by kernel_rfl) (by kernel_rfl) (by rfl) (fun _ _ _ h => h) (by rfl) hHeld ?hy32 (some 87) (by rfl) ?rest32
          case hy32 => (intro W hSw; obtain ⟨r0, r1⟩ := hSw; go_simp; (try with_reducible rfl))
          try simp only [Act.put]
          try simp only [List.setIfInBounds_toArray]
          try simp only [List.set_cons_succ, List.set_cons_zero]
          refine anyK_take2 (i := 14) (v := ?v33) rfl (by kernel_rfl) (by kernel_rfl) (by kernel_rfl) (by rfl) (fun _ _ _ h => h) (by rfl) hHeld ?hy33 (some 88) (by rfl) ?rest33
          case hy33 => (intro W hSw; obtain ⟨r0, r1⟩ := hSw; go_simp; (try with_reducible rfl))
          try simp only [Act.put]
          try simp only [List.setIfInBounds_toArray]
          try simp only [List.set_cons_succ, List.set_cons_zero]
          refine anyK_take2 (i := 15) (v := ?v34) rfl (by kernel_rfl) (by kernel_rfl) (by kernel_rfl) (by rfl) (fun _ _ _ h => h) (by rfl) hHeld ?hy34 (some 89) (by rfl) ?rest34
          case hy34 => (intro W hSw; obtain ⟨r0, r1⟩ := hSw; go_simp; (try with_reducible rfl))
          try simp only [Act.put]
          try simp only [List.setIfInBounds_toArray]
          try simp only [List.set_cons_succ, List.set_cons_zero]
          refine anyK_take2 (i := 16) (v := ?v35) rfl (by kernel_rfl) (by kernel_rfl) (by kernel_rfl) (by rfl) (fun _ _ _ h => h) (by rfl) hHeld ?hy35 (some 90) (by rfl) ?rest35
          case hy35 => (intro W hSw; obtain ⟨r0, r1⟩ := hSw; go_simp; (try with_reducible rfl))
          try simp only [Act.put]
          try simp only [List.setIfInBounds_toArray]
          try simp only [List.set_cons_succ, List.set_cons_zero]
          refine anyK_take2 (i := 17) (v := ?v36) rfl (by kernel_rfl) (by kernel_rfl) (by kernel_rfl) (by rfl) (fun _ _ _ h => h) (by rfl) hHeld ?hy36 (some 91) (by rfl) ?rest36
          case hy36 => (intro W hSw; obtain ⟨r0, r1⟩ := hSw; go_simp; (try with_reducible rfl))
          try simp only [Act.put]
          try simp only [List.setIfInBounds_toArray]
          try simp only [List.set_cons_succ, List.set_cons_zero]
          refine anyK_step (i := 18) (by kernel_rfl) rfl (fun KP hK => ?_)
          go_simp
          refine (impl_Sees A ce HZ.out (by omega) cl HL.out (by omega) A (by omega)).mono ?_
          rintro e v1 ⟨rfl, b1⟩
          rw [HSf.out]
          replace HN := hid (HN.out.below b1 (Nat.le_refl _))
          replace HL := hid (HL.out.below b1 (Nat.le_refl _))
          replace HE := hid (HE.out.below b1 (Nat.le_refl _))
          replace HZ := hid (HZ.out.below b1 (Nat.le_refl _))
          replace HB := hid (HB.out.trans (b1.mono HB.out.size))
          clear b1
          go_wp2_with fail
          refine hK.out _ _ ?_ (fun hH2 => ?_)
          · exact ⟨HE.out.c0, HE.out.c1⟩
          clear hK KP hHeld
          have hHeld := hH2
          clear hH2
          try simp only [Act.put]
          try simp only [List.setIfInBounds_toArray]
          try simp only [List.set_cons_succ, List.set_cons_zero]
          refine anyK_take2 (i := 19) (v := ?v37) rfl (by kernel_rfl) (by kernel_rfl) (by kernel_rfl) (by rfl) (fun _ _ _ h => h) (by rfl) hHeld ?hy37 (some 93) (by rfl) ?rest37
          case hy37 => (intro W hSw; obtain ⟨r0, r1⟩ := hSw; go_simp; (try with_reducible rfl))
          try simp only [Act.put]
          try simp only [List.setIfInBounds_toArray]
          try simp only [List.set_cons_succ, List.set_cons_zero]
          refine anyK_take2 (i := 20) (v := ?v38) rfl (by kernel_rfl) (by kernel_rfl) (by kernel_rfl) (by rfl) (fun _ _ _ h => h) (by rfl) hHeld ?hy38 (some 94) (by rfl) ?rest38
          case hy38 => (intro W hSw; obtain ⟨r0, r1⟩ := hSw; go_simp; (try with_reducible rfl))
          try simp only [Act.put]
          try simp only [List.setIfInBounds_toArray]
          try simp only [List.set_cons_succ, List.set_cons_zero]
          refine anyK_done (by kernel_rfl) ?_ _
          clear hHeld
          go_wp2_with fail
          go_roundw
          case rel => exact ⟨k + 1, by omega, by go_num, HB, HN, HL⟩
          case measure => simp [intOf]; omega
        · have gA : (A != X) = true := by simpa using hAX
          have HV2 := hid (HV.out rfl hAX)
          clear hAX
          go_wp2_with fail
          clear hca hcx gA
          refine (impl_Visible A ce HZ.out (by omega) cl HL.out (by omega) X Y (by omega) (by omega)).mono ?_
          rintro e v2 ⟨rfl, b2⟩
          rw [HV2.out]
          replace HN := hid (HN.out.below b2 (Nat.le_refl _))
          replace HL := hid (HL.out.below b2 (Nat.le_refl _))
          replace HE := hid (HE.out.below b2 (Nat.le_refl _))
          replace HZ := hid (HZ.out.below b2 (Nat.le_refl _))
          replace HB := hid (HB.out.trans (b2.mono HB.out.size))
          clear b2
          go_wp2_with fail
          replace HN := hid (HN.out.below ((Still.drew v2).below _) (Nat.le_refl _))
          replace HL := hid (HL.out.below ((Still.drew v2).below _) (Nat.le_refl _))
          replace HE := hid (HE.out.below ((Still.drew v2).below _) (Nat.le_refl _))
          replace HZ := hid (HZ.out.below ((Still.drew v2).below _) (Nat.le_refl _))
          replace HB := hid (HB.out.trans (((Still.drew v2).below _).mono HB.out.size))
          refine region_K 99 (fun W => W.cell? ⟨b, off + k * 2, none⟩ = some (.int .i64 A) ∧ W.cell? ⟨b, off + k * 2 + 1, none⟩ = some (.slice ae q ce)) (by kernel_rfl) ?_ (fun hHeld => ?_)
          · exact ⟨HE.out.c0, HE.out.c1⟩
          generalize v2.drew = v0 at *
          refine anyK_take2 (i := 0) (v := ?v39) rfl (by kernel_rfl) (by kernel_rfl) (by kernel_rfl) (by rfl) (fun _ _ _ h => h) (by rfl) hHeld ?hy39 (some 74) (by rfl) ?rest39
          case hy39 => (intro W hSw; obtain ⟨r0, r1⟩ := hSw; go_simp; (try with_reducible rfl))
          try simp only [Act.put]
          try simp only [List.setIfInBounds_toArray]
          try simp only [List.set_cons_succ, List.set_cons_zero]
          refine anyK_take2 (i := 1) (v := ?v40) rfl (by kernel_rfl) (by kernel_rfl) (by kernel_rfl) (by rfl) (fun _ _ _ h => h) (by rfl) hHeld ?hy40 (some 75) (by rfl) ?rest40
          case hy40 => (intro W hSw; obtain ⟨r0, r1⟩ := hSw; go_simp; (try with_reducible rfl))
          try simp only [Act.put]
          try simp only [List.setIfInBounds_toArray]
          try simp only [List.set_cons_succ, List.set_cons_zero]
          refine anyK_take2 (i := 2) (v := ?v41) rfl (by kernel_rfl) (by kernel_rfl) (by kernel_rfl) (by rfl) (fun _ _ _ h => h) (by rfl) hHeld ?hy41 (some 76) (by rfl) ?rest41
          case hy41 => (intro W hSw; obtain ⟨r0, r1⟩ := hSw; go_simp; (try with_reducible rfl))
          try simp only [Act.put]
          try simp only [List.setIfInBounds_toArray]
          try simp only [List.set_cons_succ, List.set_cons_zero]
          refine anyK_take2 (i := 3) (v := ?v42) rfl (by kernel_rfl) (by kernel_rfl) (by kernel_rfl) (by rfl) (fun _ _ _ h => h) (by rfl) hHeld ?hy42 (some 77) (by rfl) ?rest42
          case hy42 => (intro W hSw; obtain ⟨r0, r1⟩ := hSw; go_simp; (try with_reducible rfl))
          try simp only [Act.put]
          try simp only [List.setIfInBounds_toArray]
          try simp only [List.set_cons_succ, List.set_cons_zero]
          refine anyK_take2 (i := 5) (v := ?v43) rfl (by kernel_rfl) (by kernel_rfl) (by kernel_rfl) (by rfl) (fun _ _ _ h => h) (by rfl) hHeld ?hy43 (some 79) (by rfl) ?rest43
          case hy43 => (intro W hSw; obtain ⟨r0, r1⟩ := hSw; go_simp; (try with_reducible rfl))
          try simp only [Act.put]
          try simp only [List.setIfInBounds_toArray]
          try simp only [List.set_cons_succ, List.set_cons_zero]
          refine anyK_step (i := 4) (by kernel_rfl) rfl (fun KP hK => ?_)
          go_simp
          refine (spec_Dead cl HL.out X Y H).mono ?_
          rintro e v1 ⟨rfl, e1⟩
          subst v1
          rw [HD.out]
          go_wp2_with fail
          refine hK.out _ _ ?_ (fun hH2 => ?_)
          · exact ⟨HE.out.c0, HE.out.c1⟩
          clear hK KP hHeld
          have hHeld := hH2
          clear hH2
          try simp only [Act.put]
          try simp only [List.setIfInBounds_toArray]
          try simp only [List.set_cons_succ, List.set_cons_zero]
          refine anyK_take2 (i := 6) (v := ?v44) rfl (by kernel_rfl) (by kernel_rfl) (by kernel_rfl) (by rfl) (fun _ _ _ h => h) (by rfl) hHeld ?hy44 (some 80) (by rfl) ?rest44
          case hy44 => (intro W hSw; obtain ⟨r0, r1⟩ := hSw; go_simp; (try with_reducible rfl))
          try simp only [Act.put]
          try simp only [List.setIfInBounds_toArray]
          try simp only [List.set_cons_succ, List.set_cons_zero]
          refine anyK_take2 (i := 7) (v := ?v45) rfl (by kernel_rfl) (by kernel_rfl) (by kernel_rfl) (by rfl) (fun _ _ _ h => h) (by rfl) hHeld ?hy45 (some 81) (by rfl) ?rest45
          case hy45 => (intro W hSw; obtain ⟨r0, r1⟩ := hSw; go_simp; (try with_reducible rfl))
          try simp only [Act.put]
          try simp only [List.setIfInBounds_toArray]
          try simp only [List.set_cons_succ, List.set_cons_zero]
          refine anyK_take2 (i := 8) (v := ?v46) rfl (by kernel_rfl) (by kernel_rfl) (by kernel_rfl) (by rfl) (fun _ _ _ h => h) (by rfl) hHeld ?hy46 (some 82) (by rfl) ?rest46
          case hy46 => (intro W hSw; obtain ⟨r0, r1⟩ := hSw; go_simp; (try with_reducible rfl))
          try simp only [Act.put]
          try simp only [List.setIfInBounds_toArray]
          try simp only [List.set_cons_succ, List.set_cons_zero]
          refine anyK_take2 (i := 9) (v := ?v47) rfl (by kernel_rfl) (by kernel_rfl) (by kernel_rfl) (by rfl) (fun _ _ _ h => h) (by rfl) hHeld ?hy47 (some 83) (by rfl) ?rest47
          case hy47 => (intro W hSw; obtain ⟨r0, r1⟩ := hSw; go_simp; (try with_reducible rfl))
          try simp only [Act.put]
          try simp only [List.setIfInBounds_toArray]
          try simp only [List.set_cons_succ, List.set_cons_zero]
          refine anyK_take2 (i := 10) (v := ?v48) rfl (by kernel_rfl) (by kernel_rfl) (by kernel_rfl) (by rfl) (fun _ _ _ h => h) (by rfl) hHeld ?hy48 (some 84) (by rfl) ?rest48
          case hy48 => (intro W hSw; obtain ⟨r0, r1⟩ := hSw; go_simp; (try with_reducible rfl))
          try simp only [Act.put]
          try simp only [List.setIfInBounds_toArray]
          try simp only [List.set_cons_succ, List.set_cons_zero]
          refine anyK_take2 (i := 11) (v := ?v49) rfl (by kernel_rfl) (by kernel_rfl) (by kernel_rfl) (by rfl) (fun _ _ _ h => h) (by rfl) hHeld ?hy49 (some 85) (by rfl) ?rest49
          case hy49 => (intro W hSw; obtain ⟨r0, r1⟩ := hSw; go_simp; (try with_reducible rfl))
          try simp only [Act.put]
          try simp only [List.setIfInBounds_toArray]
          try simp only [List.set_cons_succ, List.set_cons_zero]
          refine anyK_take2 (i := 12) (v := ?v50) rfl (by kernel_rfl) (by kernel_rfl) (by kernel_rfl) (by rfl) (fun _ _ _ h => h) (by rfl) hHeld ?hy50 (some 86) (by rfl) ?rest50
          case hy50 => (intro W hSw; obtain ⟨r0, r1⟩ := hSw; go_simp; (try with_reducible rfl))
          try simp only [Act.put]
          try simp only [List.setIfInBounds_toArray]
          try simp only [List.set_cons_succ, List.set_cons_zero]
          refine anyK_take2 (i := 13) (v := ?v51) rfl (by kernel_rfl) (by kernel_rfl) (by kernel_rfl) (by rfl) (fun _ _ _ h => h) (by rfl) hHeld ?hy51 (some 87) (by rfl) ?rest51
          case hy51 => (intro W hSw; obtain ⟨r0, r1⟩ := hSw; go_simp; (try with_reducible rfl))
          try simp only [Act.put]
          try simp only [List.setIfInBounds_toArray]
          try simp only [List.set_cons_succ, List.set_cons_zero]
          refine anyK_take2 (i := 14) (v := ?v52) rfl (by kernel_rfl) (by kernel_rfl) (by kernel_rfl) (by rfl) (fun _ _ _ h => h) (by rfl) hHeld ?hy52 (some 88) (by rfl) ?rest52
          case hy52 => (intro W hSw; obtain ⟨r0, r1⟩ := hSw; go_simp; (try with_reducible rfl))
          try simp only [Act.put]
          try simp only [List.setIfInBounds_toArray]
          try simp only [List.set_cons_succ, List.set_cons_zero]
          refine anyK_take2 (i := 15) (v := ?v53) rfl (by kernel_rfl) (by kernel_rfl) (by kernel_rfl) (by rfl) (fun _ _ _ h => h) (by rfl) hHeld ?hy53 (some 89) (by rfl) ?rest53
          case hy53 => (intro W hSw; obtain ⟨r0, r1⟩ := hSw; go_simp; (try with_reducible rfl))
          try simp only [Act.put]
          try simp only [List.setIfInBounds_toArray]
          try simp only [List.set_cons_succ, List.set_cons_zero]
          refine anyK_take2 (i := 16) (v := ?v54) rfl (by kernel_rfl) (by kernel_rfl) (by kernel_rfl) (by rfl) (fun _ _ _ h => h) (by rfl) hHeld ?hy54 (some 90) (by rfl) ?rest54
          case hy54 => (intro W hSw; obtain ⟨r0, r1⟩ := hSw; go_simp; (try with_reducible rfl))
          try simp only [Act.put]
          try simp only [List.setIfInBounds_toArray]
          try simp only [List.set_cons_succ, List.set_cons_zero]
          refine anyK_take2 (i := 17) (v := ?v55) rfl (by kernel_rfl) (by kernel_rfl) (by kernel_rfl) (by rfl) (fun _ _ _ h => h) (by rfl) hHeld ?hy55 (some 91) (by rfl) ?rest55
          case hy55 => (intro W hSw; obtain ⟨r0, r1⟩ := hSw; go_simp; (try with_reducible rfl))
          try simp only [Act.put]
          try simp only [List.setIfInBounds_toArray]
          try simp only [List.set_cons_succ, List.set_cons_zero]
          refine anyK_step (i := 18) (by kernel_rfl) rfl (fun KP hK => ?_)
          go_simp
          refine (impl_Sees A ce HZ.out (by omega) cl HL.out (by omega) A (by omega)).mono ?_
          rintro e v1 ⟨rfl, b1⟩
          rw [HSf.out]
          replace HN := hid (HN.out.below b1 (Nat.le_refl _))
          replace HL := hid (HL.out.below b1 (Nat.le_refl _))
          replace HE := hid (HE.out.below b1 (Nat.le_refl _))
          replace HZ := hid (HZ.out.below b1 (Nat.le_refl _))
          replace HB := hid (HB.out.trans (b1.mono HB.out.size))
          clear b1
          go_wp2_with fail
          refine hK.out _ _ ?_ (fun hH2 => ?_)
          · exact ⟨HE.out.c0, HE.out.c1⟩
          clear hK KP hHeld
          have hHeld := hH2
          clear hH2
          try simp only [Act.put]
          try simp only [List.setIfInBounds_toArray]
          try simp only [List.set_cons_succ, List.set_cons_zero]
          refine anyK_take2 (i := 19) (v := ?v56) rfl (by kernel_rfl) (by kernel_rfl) (by kernel_rfl) (by rfl) (fun _ _ _ h => h) (by rfl) hHeld ?hy56 (some 93) (by rfl) ?rest56
          case hy56 => (intro W hSw; obtain ⟨r0, r1⟩ := hSw; go_simp; (try with_reducible rfl))
          try simp only [Act.put]
          try simp only [List.setIfInBounds_toArray]
          try simp only [List.set_cons_succ, List.set_cons_zero]
          refine anyK_take2 (i := 20) (v := ?v57) rfl (by kernel_rfl) (by kernel_rfl) (by kernel_rfl) (by rfl) (fun _ _ _ h => h) (by rfl) hHeld ?hy57 (some 94) (by rfl) ?rest57
          case hy57 => (intro W hSw; obtain ⟨r0, r1⟩ := hSw; go_simp; (try with_reducible rfl))
          try simp only [Act.put]
          try simp only [List.setIfInBounds_toArray]
          try simp only [List.set_cons_succ, List.set_cons_zero]
          refine anyK_done (by kernel_rfl) ?_ _
          clear hHeld
          go_wp2_with fail
          go_roundw
          case rel => exact ⟨k + 1, by omega, by go_num, HB, HN, HL⟩
          case measure => simp [intOf]; omega
    · have hlt' : ¬ (k : Int) < (m : Int) := by omega
      go_wp2_with fail
      go_ret
      exact ⟨rfl, HB.out⟩
end Go.Proofs.Ytemhmlikfiknlaa
