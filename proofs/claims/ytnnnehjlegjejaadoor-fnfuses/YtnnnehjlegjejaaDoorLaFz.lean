/- FnFuses' walk. -/
import Derived.Test.YtnnnehjlegjejaaDoorFz
namespace Go.Proofs.YtnnnehjlegjejaaDoor
open Go.RowKit

theorem wrap_in (n : Int) (h0 : 0 ≤ n) (h1 : n < 9223372036854775808) : IntKind.i64.wrap n = n := by
  rw [IntKind.wrap_i64]; omega
theorem bel_al' {B : Nat} {a w : World} (h : Below B a w) (o : Obj) (hB : B ≤ w.heap.size := by exact h.size) : Below B a (w.alloc o) := h.alloc hB o
theorem anyK_two {P : Program} {ops : Array Oper} {Q : Exit → Act → World → Prop} {md : Region.Mode} {S : World → Prop} {L i j : Nat} {oi oj : Oper} {n : Nat} {listed : Array Bool} {a : Act} {w : World} (hr : Region.ready md ops listed = [i, j]) (hoi : ops[i]? = some oi) (hoj : ops[j]? = some oj)
    (hi : ∀ K : Act → World → Prop, Shut (∀ a w, S w → (S w → anyK P md ops Q S L n (listed.setIfInBounds i true) a w) → K a w) → if Region.wanted oi (yielded ops a.tmps) = true then Oper.wp P oi a w K Q else K (a.put oi.dst undef) w)
    (hj : ∀ K : Act → World → Prop, Shut (∀ a w, S w → (S w → anyK P md ops Q S L n (listed.setIfInBounds j true) a w) → K a w) → if Region.wanted oj (yielded ops a.tmps) = true then Oper.wp P oj a w K Q else K (a.put oj.dst undef) w) : anyK P md ops Q S L (n + 1) listed a w := by
  refine ⟨fun e => absurd e (by rw [hr]; simp), fun q hq => ?_⟩
  rw [hr] at hq
  rcases List.mem_cons.1 hq with rfl | hq
  · exact wpOp_step hoi (fun K hK => hi K (fun a w hS hW => hK a w ⟨.inr hS, hW hS⟩))
  · obtain rfl := List.mem_singleton.1 hq
    exact wpOp_step hoj (fun K hK => hj K (fun a w hS hW => hK a w ⟨.inr hS, hW hS⟩))

set_option maxRecDepth 100000 in
set_option maxHeartbeats 12800000 in
theorem lawFuses {ad : Option Addr} {n : Nat} (cap : Nat) {zs : List Int} {w : World} (h : Reads w ad n zs) (hn : n ≤ maxLen) {s0 s1 : Addr} {e0 e1 : Array Value} {u0 u1 : TypeId} (hv : Sents w w.heap.size s0 s1 e0 e1 u0 u1) :
    Calls Tryd.prog 4 #[.slice ad n cap] w fun e w' => e = .returned (.bool true) ∧ Below w.heap.size w w' := by
  unfold maxLen at hn
  have HV := hid hv
  have HR := hid h
  clear hv h
  go_enter Tryd.func4, Tryd.ntmps4
  go_wp2_with fail
  refine (law_big ad n cap w).mono ?_
  rintro e w1 ⟨rfl, h1⟩
  obtain rfl := h1.symm
  by_cases hb : (1048576 : Int) < (n : Int)
  · rw [decide_eq_true hb]
    go_wp2_with fail
    go_ret
    exact ⟨rfl, Below.refl _ _⟩
  rw [decide_eq_false hb]
  have hn' : n ≤ 1048576 := by omega
  go_wp2_with fail
  refine (at_any cap HR.out (by omega) 0 (by omega) (by omega)).mono ?_
  rintro e w1 ⟨x, rfl, hx0, hx1, h1⟩
  obtain rfl := h1.symm
  go_wp2_with fail
  obtain ⟨m, hm, hm8⟩ : ∃ m : Nat, x % 9 = (m : Int) ∧ m ≤ 8 := ⟨(x % 9).toNat, by omega, by omega⟩
  rw [hm]
  clear hm hx0 hx1
  have ok4 : ∀ F, -1 ≤ F → okD ⟨List.replicate 4 zeros, [], F, false⟩ = true := fun F hF => okD_mk ⟨by simp, by simp, by simp, hF, fun i hi => by simp only [List.length_replicate] at hi; rw [List.getD_eq_getElem?_getD, List.getElem?_replicate, if_pos hi]; simp [zeros], fun i hi => by simp at hi⟩
  have hBu := hid (show Burnt m 0 ⟨List.replicate 4 zeros, [], (m : Int), false⟩ from ⟨ok4 _ (by omega), by simp, by simp, fun _ => ⟨by simp, rfl⟩, fun hh => by omega⟩)
  have hfu : fuseD ⟨List.replicate 4 zeros, [], -1, false⟩ (m : Int) = (⟨List.replicate 4 zeros, [], (m : Int), false⟩, 0) := by
    unfold fuseD
    rw [if_pos ⟨ok4 _ (by omega), by omega⟩]
  have HFU := hid hfu
  clear ok4 hfu
  refine (impl_DiskNew 4 w (by omega) (by omega)).mono ?_
  rintro e w2 ⟨aS, cS, rfl, o2, b2⟩
  have P2 := hid o2.rd
  have HB := hid b2
  clear o2 b2
  go_wp2_with fail
  refine (impl_Fuse cS 0 (m : Int) P2.out (by simp) rfl HFU.out).mono ?_
  rintro e w3 ⟨aR, n1, cR, dR, n2, eR, l1, l2, rfl, o3, b3⟩
  obtain rfl : 4 = n1 := by simpa using l1
  obtain rfl : 0 = n2 := by simpa using l2
  have bA := Below.alloc1 w3 (.cells #[.slice aR 4 cR, .slice dR 0 eR, .int .i64 (m : Int), .bool false] 27)
  have R3 := hid (o3.rd.below bA (Nat.le_refl _))
  have T3 := hid (heap_alloc_new w3 (.cells #[.slice aR 4 cR, .slice dR 0 eR, .int .i64 (m : Int), .bool false] 27))
  have HB3 := hid ((HB.out.trans (b3.mono HB.out.size)).trans (bA.mono (HB.out.trans (b3.mono HB.out.size)).size))
  have HGw := hid (show w.heap.size ≤ w3.heap.size from (HB.out.trans (b3.mono HB.out.size)).size)
  have hs3 := alloc_size w3 (.cells #[.slice aR 4 cR, .slice dR 0 eR, .int .i64 (m : Int), .bool false] 27)
  have HS3 := hid hs3
  clear o3 b3 bA P2 HB l1 l2 hs3
  go_wp2_with fail
  generalize w3.alloc (.cells #[.slice aR 4 cR, .slice dR 0 eR, .int .i64 (m : Int), .bool false] 27) = W at *
  generalize w3.heap.size = G at *
  go_loopw [6] (fun i wr => ∃ (k : Nat) (S : List (List Int)) (Wt : List (Int × List Int)) (F : Int) (D : Bool) (a1 : Option Addr) (n1 c1 : Nat) (a2 : Option Addr) (n2 c2 : Nat), k ≤ m + 3 ∧ i = .int .i64 k ∧ Hid (Burnt m k ⟨S, Wt, F, D⟩) ∧ Hid (S.length = n1) ∧ Hid (Wt.length = n2) ∧ Hid (wr.heap[G]? = some (.cells #[.slice a1 n1 c1, .slice a2 n2 c2, .int .i64 F, .bool D] 27)) ∧ Hid (ReadsD wr a1 a2 S Wt) ∧ Hid (Below w.heap.size w wr)) (fun i _ => m + 3 - (intOf i).toNat)
  case atStart => exact ⟨0, _, _, _, _, aR, 4, cR, dR, 0, eR, Nat.zero_le _, rfl, hBu, hid (by simp), hid rfl, T3, R3, HB3⟩
  case round =>
    obtain ⟨k, S, Wt, F, D, a1, n1, c1, a2, n2, c2, hk, rfl, hBk, hl1, hl2, hbx, hrd, hBl⟩ := hrel
    obtain ⟨y0, y1, y2, y3⟩ : BoxD wr G a1 n1 c1 a2 n2 c2 F D := ⟨by rw [cell_of_row _ _ _ _ _ _ hbx.out]; rfl, by rw [cell_of_row _ _ _ _ _ _ hbx.out]; rfl, by rw [cell_of_row _ _ _ _ _ _ hbx.out]; rfl, by rw [cell_of_row _ _ _ _ _ _ hbx.out]; rfl⟩
    by_cases hlt : k < m + 3
    · have hlt' : (k : Int) < (m : Int) + 3 := by omega
      go_wp2_with fail
      obtain ⟨RS, RW, RF, RD, RC, hR⟩ : ∃ (RS : List (List Int)) (RW : List (Int × List Int)) (RF : Int) (RD : Bool) (RC : Int), syncD ⟨S, Wt, F, D⟩ = (⟨RS, RW, RF, RD⟩, RC) := ⟨_, _, _, _, _, rfl⟩
      have hb2 := hBk.out.sync
      rw [hR] at hb2
      simp only at hb2
      obtain ⟨hbu, hRC⟩ := hb2
      have HBu := hid hbu
      have HRC := hid hRC
      clear hRC
      have hF : F ≤ 9223372036854775807 := by
        rcases Nat.lt_or_ge m k with hmk | hmk
        · have := (hBk.out.out hmk).1; simp only at this; omega
        · have := (hBk.out.lit hmk).1; simp only at this; omega
      clear hbu
      refine (impl_Sync c1 c2 hrd.out hl1.out hl2.out hF ((HV.out.below hBl.out).up hBl.out.size) hR).mono ?_
      rintro e w4 ⟨aQ, q1, cQ, dQ, q2, eQ, m1, m2, rfl, o4, b4⟩
      have MM := hid (And.intro m1 m2)
      have bA := Below.alloc1 w4 (.cells #[.slice aQ q1 cQ, .slice dQ q2 eQ, .int .i64 RF, .bool RD] 27)
      have hGl : G < wr.heap.size := (Array.getElem?_eq_some_iff.1 hbx.out).1
      have hz4 := alloc_size w4 (.cells #[.slice aQ q1 cQ, .slice dQ q2 eQ, .int .i64 RF, .bool RD] 27)
      have hw4 := b4.size
      have T4 := hid ((bA.block G (by omega)).trans ((b4.block G hGl).trans hbx.out))
      have T7 := hid (heap_alloc_new w4 (.cells #[.slice aQ q1 cQ, .slice dQ q2 eQ, .int .i64 RF, .bool RD] 27))
      have HB4 := hid ((hBl.out.trans (b4.mono hBl.out.size)).trans (bA.mono (hBl.out.trans (b4.mono hBl.out.size)).size))
      have HW4 := hid ((b4.mono (Nat.le_refl _)).trans (bA.mono b4.size))
      have O4 := hid (o4.agree (Agree.below bA (Nat.le_refl _)))
      have HZ4 := hid (And.intro hGl (And.intro hz4 hw4))
      clear o4 b4 bA m1 m2 y0 y1 y2 y3 hGl hz4 hw4 hR
      go_wp2_with fail
      generalize w4.alloc (.cells #[.slice aQ q1 cQ, .slice dQ q2 eQ, .int .i64 RF, .bool RD] 27) = W4 at *
      generalize w4.heap.size = P at *
      have HRN := hid (show ReadsD (W4.setRow G #[.slice aQ q1 cQ, .slice dQ q2 eQ, .int .i64 RF, .bool RD]) aQ dQ RS RW from (O4.out.agree (fun j h1 h2 => setRow_other _ _ _ _ (by have := HZ4.out.1; omega))).rd)
      have HBN := hid (below_setRow HB4.out HGw.out #[.slice aQ q1 cQ, .slice dQ q2 eQ, .int .i64 RF, .bool RD])
      refine (at_any cap (HR.out.below HB4.out (Nat.le_refl _)) (by omega) (1 + (k : Int)) (by omega) (by omega)).mono ?_
      rintro e w5 ⟨y, rfl, hy0, hy1, h5⟩
      obtain rfl := h5.symm
      by_cases hy : y % 2 = 0
      · have q : (y % 2 == 0) = true := by simp [hy]
        have T4c := T4.out
        obtain ⟨y0, y1, y2, y3⟩ : BoxD W4 G a1 n1 c1 a2 n2 c2 F D := ⟨by rw [cell_of_row _ _ _ _ _ _ T4c]; rfl, by rw [cell_of_row _ _ _ _ _ _ T4c]; rfl, by rw [cell_of_row _ _ _ _ _ _ T4c]; rfl, by rw [cell_of_row _ _ _ _ _ _ T4c]; rfl⟩
        have H4 := hid (show W4.drew.cell? ⟨G, 0, none⟩ = some (.slice a1 n1 c1) ∧ W4.drew.cell? ⟨G, 1, none⟩ = some (.slice a2 n2 c2) ∧ W4.drew.cell? ⟨G, 2, none⟩ = some (.int .i64 F) ∧ W4.drew.cell? ⟨G, 3, none⟩ = some (.bool D) from ⟨y0, y1, y2, y3⟩)
        have HKx := hid (show ∀ X, Below W4.heap.size W4 X → X.cell? ⟨G, 0, none⟩ = some (.slice a1 n1 c1) ∧ X.cell? ⟨G, 1, none⟩ = some (.slice a2 n2 c2) ∧ X.cell? ⟨G, 2, none⟩ = some (.int .i64 F) ∧ X.cell? ⟨G, 3, none⟩ = some (.bool D) from fun X b => by have hg := (b.block G (Array.getElem?_eq_some_iff.1 T4.out).1).trans T4.out; exact ⟨by rw [cell_of_row _ _ _ _ _ _ hg]; rfl, by rw [cell_of_row _ _ _ _ _ _ hg]; rfl, by rw [cell_of_row _ _ _ _ _ _ hg]; rfl, by rw [cell_of_row _ _ _ _ _ _ hg]; rfl⟩)
        clear T4c
        go_wp2_with fail
        clear y0 y1 y2 y3
        refine region_K 12 (fun X => X.cell? ⟨G, 0, none⟩ = some (.slice a1 n1 c1) ∧ X.cell? ⟨G, 1, none⟩ = some (.slice a2 n2 c2) ∧ X.cell? ⟨G, 2, none⟩ = some (.int .i64 F) ∧ X.cell? ⟨G, 3, none⟩ = some (.bool D)) (by kernel_rfl) ?_ (fun hHeld => ?_)
        · exact H4.out
        refine anyK_take (i := 0) (v := ?v2001) rfl (by kernel_rfl) (by kernel_rfl) (by kernel_rfl) (by kernel_rfl) (fun _ _ _ h => h) (by rfl) hHeld ?hy2001 (some 48) (by rfl) ?rest2001
        case hy2001 => (intro W hSw; (try dsimp only at hSw); go_simp; (try with_reducible rfl))
        try simp only [Act.put]
        try simp only [List.setIfInBounds_toArray]
        try simp only [List.set_cons_succ, List.set_cons_zero]
        refine anyK_take (i := 1) (v := ?v2002) rfl (by kernel_rfl) (by kernel_rfl) (by kernel_rfl) (by kernel_rfl) (fun _ _ _ h => h) (by rfl) hHeld ?hy2002 (some 49) (by rfl) ?rest2002
        case hy2002 => (intro W hSw; (try dsimp only at hSw); go_simp; (try with_reducible rfl))
        try simp only [Act.put]
        try simp only [List.setIfInBounds_toArray]
        try simp only [List.set_cons_succ, List.set_cons_zero]
        refine anyK_take (i := 2) (v := ?v2003) rfl (by kernel_rfl) (by kernel_rfl) (by kernel_rfl) (by kernel_rfl) (fun _ _ _ h => h) (by rfl) hHeld ?hy2003 (some 50) (by rfl) ?rest2003
        case hy2003 => (intro W hSw; (try dsimp only at hSw); go_simp; (try with_reducible rfl))
        try simp only [Act.put]
        try simp only [List.setIfInBounds_toArray]
        try simp only [List.set_cons_succ, List.set_cons_zero]
        refine anyK_take (i := 3) (v := ?v2004) rfl (by kernel_rfl) (by kernel_rfl) (by kernel_rfl) (by kernel_rfl) (fun _ _ _ h => h) (by rfl) hHeld ?hy2004 (some 51) (by rfl) ?rest2004
        case hy2004 => (intro W hSw; (try dsimp only at hSw); go_simp; (try with_reducible rfl))
        try simp only [Act.put]
        try simp only [List.setIfInBounds_toArray]
        try simp only [List.set_cons_succ, List.set_cons_zero]
        have HWR := hid (show IntKind.i64.wrap (20 + (k : Int)) = 20 + (k : Int) from wrap_in (20 + (k : Int)) (by omega) (by omega))
        have mk := mk64
        refine anyK_two (i := 4) (j := 6) (by kernel_rfl) rfl rfl (fun K hK => ?_) (fun K hK => ?_)
        · go_simp
          rw [HWR.out]
          refine (at_any cap (HR.out.below (HB4.out.drew) (Nat.le_refl _)) (by omega) (20 + (k : Int)) (by omega) (by omega)).mono ?_
          rintro e w6 ⟨x2, rfl, hx0, hx1, h6⟩
          obtain rfl := h6.symm
          go_wp2_with fail
          refine hK.out _ _ ?_ (fun hH2 => ?_)
          · exact H4.out
          clear hK K hHeld
          have hHeld := hH2
          clear hH2
          try simp only [Act.put]
          try simp only [List.setIfInBounds_toArray]
          try simp only [List.set_cons_succ, List.set_cons_zero]
          refine anyK_take (i := 5) (v := ?v2005) rfl (by kernel_rfl) (by kernel_rfl) (by kernel_rfl) (by kernel_rfl) (fun _ _ _ h => h) (by rfl) hHeld ?hy2005 (some 53) (by rfl) ?rest2005
          case hy2005 => (intro W hSw; (try dsimp only at hSw); go_simp; (try with_reducible rfl))
          try simp only [Act.put]
          try simp only [List.setIfInBounds_toArray]
          try simp only [List.set_cons_succ, List.set_cons_zero]
          refine anyK_step (i := 6) (by kernel_rfl) rfl (fun K hK => ?_)
          go_simp
          refine hK.out _ _ ?_ (fun hH2 => ?_)
          · exact HKx.out _ (bel_al ((Below.refl _ W4).drew) _)
          clear hK K hHeld
          have hHeld := hH2
          clear hH2
          try simp only [Act.put]
          try simp only [List.setIfInBounds_toArray]
          try simp only [List.set_cons_succ, List.set_cons_zero]
          obtain ⟨RS2, RW2, RF2, RD2, RC2, hR2⟩ : ∃ (RS : List (List Int)) (RW : List (Int × List Int)) (RF : Int) (RD : Bool) (RC : Int), writeD ⟨S, Wt, F, D⟩ (x2 % 4) zeros = (⟨RS, RW, RF, RD⟩, RC) := ⟨_, _, _, _, _, rfl⟩
          have hb3 := hBk.out.write (by omega) (at' := x2 % 4) (by omega) (by omega) (z := zeros) (by simp [zeros])
          rw [hR2] at hb3
          simp only at hb3
          have HBu2 := hid hb3.1
          have HRC2 := hid hb3.2
          clear hb3
          have bM := (bel_al' HB4.out (.cells zrow 5) HB4.out.size).drew
          have bN := (bel_al (Below.refl W4.heap.size W4) (.cells zrow 5)).drew
          have HTM := hid (show x2.tmod 4 = x2 % 4 from Int.tmod_eq_emod_of_nonneg hx0)
          obtain ⟨_, _, e1, rz, _⟩ := Reads.own (zs := zeros) (by rw [← zrow_list]; exact (World.ownsRow_lit (base := W4.heap.size) (e := 5) (size := 1) W4 zrow 64 (Nat.le_refl _) (by unfold maxLen; omega) (by unfold zrow; rw [size_madeCells])).drew) zeros_bd
          obtain ⟨rfl, _, rfl⟩ := Value.slice.inj e1
          refine anyK_step (i := 7) (by kernel_rfl) rfl (fun K hK => ?_)
          go_simp
          rw [HTM.out]
          refine (impl_Write c1 c2 (x2 % 4) ((hrd.out.below HW4.out (Nat.le_refl _)).below bN (Nat.le_refl _)) hl1.out hl2.out 64 rz hF ((HV.out.below bM).up bM.size) hR2).mono ?_
          rintro e w6 ⟨aU, v1, cU, dU, v2, eU, u1, u2, rfl, o6, b6⟩
          have b6W := hid (bN.trans (b6.mono bN.size))
          have HZ6 := hid bN.size
          have O6 := hid o6
          have UU := hid (And.intro u1 u2)
          have T7u := hid ((b6W.out.block P (by have := HZ4.out; omega)).trans T7.out)
          have T4u := hid ((b6W.out.block G (by have := HZ4.out; omega)).trans T4.out)
          clear o6 b6 u1 u2 bN bM rz
          go_wp2_with fail
          refine hK.out _ _ ?_ (fun hH2 => ?_)
          · exact HKx.out _ b6W.out
          clear hK K hHeld
          have hHeld := hH2
          clear hH2
          try simp only [Act.put]
          try simp only [List.setIfInBounds_toArray]
          try simp only [List.set_cons_succ, List.set_cons_zero]
          refine anyK_take (i := 8) (v := ?v2006) rfl (by kernel_rfl) (by kernel_rfl) (by kernel_rfl) (by kernel_rfl) (fun _ _ _ h => h) (by rfl) hHeld ?hy2006 (some 47) (by rfl) ?rest2006
          case hy2006 => (intro W hSw; (try dsimp only at hSw); go_simp; (try with_reducible rfl))
          try simp only [Act.put]
          try simp only [List.setIfInBounds_toArray]
          try simp only [List.set_cons_succ, List.set_cons_zero]
          refine anyK_take (i := 9) (v := ?v2007) rfl (by kernel_rfl) (by kernel_rfl) (by kernel_rfl) (by kernel_rfl) (fun _ _ _ h => h) (by rfl) hHeld ?hy2007 (some 56) (by rfl) ?rest2007
          case hy2007 => (intro W hSw; (try dsimp only at hSw); go_simp; (try with_reducible rfl))
          try simp only [Act.put]
          try simp only [List.setIfInBounds_toArray]
          try simp only [List.set_cons_succ, List.set_cons_zero]
          refine anyK_take (i := 10) (v := ?v2008) rfl (by kernel_rfl) (by kernel_rfl) (by kernel_rfl) (by kernel_rfl) (fun _ _ _ h => h) (by rfl) hHeld ?hy2008 (some 57) (by rfl) ?rest2008
          case hy2008 => (intro W hSw; (try dsimp only at hSw); go_simp; (try with_reducible rfl))
          try simp only [Act.put]
          try simp only [List.setIfInBounds_toArray]
          try simp only [List.set_cons_succ, List.set_cons_zero]
          refine anyK_step (i := 11) (by kernel_rfl) rfl (fun K hK => ?_)
          rw [if_pos (by rfl)]
          refine wp_store_row 27 (.tmp 7) (.tmp 56) rfl P #[.slice aU v1 cU, .slice dU v2 eU, .int .i64 RF2, .bool RD2] rfl rfl 27 _ T7u.out sizeDk rfl (by simp [Value.oneCell']) ?_
          have TS : (w6.setRow P #[.slice aU v1 cU, .slice dU v2 eU, .int .i64 RF2, .bool RD2]).heap[G]? = some (.cells #[.slice a1 n1 c1, .slice a2 n2 c2, .int .i64 F, .bool D] 27) := by
            rw [setRow_other _ _ _ _ (by have := HZ4.out; omega)]
            exact T4u.out
          refine hK.out _ _ ?_ (fun hH2 => ?_)
          · exact ⟨by rw [cell_of_row _ _ _ _ _ _ TS]; rfl, by rw [cell_of_row _ _ _ _ _ _ TS]; rfl, by rw [cell_of_row _ _ _ _ _ _ TS]; rfl, by rw [cell_of_row _ _ _ _ _ _ TS]; rfl⟩
          clear hK K hHeld
          have hHeld := hH2
          clear hH2
          try simp only [Act.put]
          try simp only [List.setIfInBounds_toArray]
          try simp only [List.set_cons_succ, List.set_cons_zero]
          refine anyK_last (by kernel_rfl) rfl (fun K hK => ?_)
          go_simp
          refine hK.out _ _ ?_
          clear hK K hHeld
          refine anyK_done (by kernel_rfl) ?_ _
          have T7v := hid (setRow_heap w6 P _ #[.slice aU v1 cU, .slice dU v2 eU, .int .i64 RF2, .bool RD2] _ _ T7u.out)
          have T4v := hid TS
          have HRN2 := hid (show ReadsD ((w6.setRow P #[.slice aU v1 cU, .slice dU v2 eU, .int .i64 RF2, .bool RD2]).setRow G #[.slice aU v1 cU, .slice dU v2 eU, .int .i64 RF2, .bool RD2]) aU dU RS2 RW2 from (O6.out.agree (fun j h1 h2 => (setRow_other _ _ _ _ (by have := HZ4.out; have := HZ6.out; omega)).trans (setRow_other _ _ _ _ (by have := HZ4.out; have := HZ6.out; omega)))).rd)
          have HBN2 := hid (below_setRow (below_setRow (HB4.out.trans (b6W.out.mono HB4.out.size)) (show w.heap.size ≤ P by have := HZ4.out; have := HGw.out; omega) #[.slice aU v1 cU, .slice dU v2 eU, .int .i64 RF2, .bool RD2]) HGw.out #[.slice aU v1 cU, .slice dU v2 eU, .int .i64 RF2, .bool RD2])
          clear TS H4 HKx mk q HRN HBN HBu MM HRC O4 T7 T4 T7u T4u b6W HZ6 O6 HTM HWR
          generalize w6.setRow P #[.slice aU v1 cU, .slice dU v2 eU, .int .i64 RF2, .bool RD2] = W7 at *
          by_cases hkm : k < m
          · have hkm' : (k : Int) < (m : Int) := by omega
            have hkm2 : ¬ (m : Int) ≤ (k : Int) := by omega
            have hRC := HRC2.out
            rw [if_pos hkm] at hRC
            subst hRC
            clear HRC2
            go_wp2_with (first
              | (refine wpList_load_row rfl 27 (.tmp 7) rfl P rfl 27 _ (0, 0) _ T7v.out Tryd.underlying27 rfl sizeDk ?_)
              | (refine wpList_store_row rfl 27 (.tmp 4) (.tmp 58) rfl G #[.slice aU v1 cU, .slice dU v2 eU, .int .i64 RF2, .bool RD2] rfl rfl 27 _ T4v.out ?s1x1 ?s2x1 ?s3x1 ?_))
            case s1x1 => simpa using sizeDk
            case s3x1 => simp [Value.oneCell']
            go_wp2_with fail
            go_roundw
            case rel => exact ⟨k + 1, RS2, RW2, RF2, RD2, aU, v1, cU, dU, v2, eU, by omega, by go_num, HBu2, hid UU.out.1, hid UU.out.2, hid (setRow_heap _ _ _ _ _ _ T4v.out), HRN2, HBN2⟩
            case measure => simp [intOf]; omega
          · have hkm' : ¬ (k : Int) < (m : Int) := by omega
            have hkm2 : (m : Int) ≤ (k : Int) := by omega
            have hRC := HRC2.out
            rw [if_neg hkm] at hRC
            subst hRC
            clear HRC2
            go_wp2_with (first
              | (refine wpList_load_row rfl 27 (.tmp 7) rfl P rfl 27 _ (0, 0) _ T7v.out Tryd.underlying27 rfl sizeDk ?_)
              | (refine wpList_store_row rfl 27 (.tmp 4) (.tmp 58) rfl G #[.slice aU v1 cU, .slice dU v2 eU, .int .i64 RF2, .bool RD2] rfl rfl 27 _ T4v.out ?s1x2 ?s2x2 ?s3x2 ?_))
            case s1x2 => simpa using sizeDk
            case s3x2 => simp [Value.oneCell']
            go_wp2_with fail
            go_roundw
            case rel => exact ⟨k + 1, RS2, RW2, RF2, RD2, aU, v1, cU, dU, v2, eU, by omega, by go_num, HBu2, hid UU.out.1, hid UU.out.2, hid (setRow_heap _ _ _ _ _ _ T4v.out), HRN2, HBN2⟩
            case measure => simp [intOf]; omega
        · go_simp
          refine hK.out _ _ ?_ (fun hH2 => ?_)
          · exact HKx.out _ (bel_al ((Below.refl _ W4).drew) _)
          clear hK K hHeld
          have hHeld := hH2
          clear hH2
          try simp only [Act.put]
          try simp only [List.setIfInBounds_toArray]
          try simp only [List.set_cons_succ, List.set_cons_zero]
          refine anyK_step (i := 4) (by kernel_rfl) rfl (fun K hK => ?_)
          go_simp
          rw [HWR.out]
          refine (at_any cap (HR.out.below (bel_al' HB4.out (.cells zrow 5) HB4.out.size).drew (Nat.le_refl _)) (by omega) (20 + (k : Int)) (by omega) (by omega)).mono ?_
          rintro e w6 ⟨x2, rfl, hx0, hx1, h6⟩
          obtain rfl := h6.symm
          go_wp2_with fail
          refine hK.out _ _ ?_ (fun hH2 => ?_)
          · exact HKx.out _ (bel_al ((Below.refl _ W4).drew) _)
          clear hK K hHeld
          have hHeld := hH2
          clear hH2
          try simp only [Act.put]
          try simp only [List.setIfInBounds_toArray]
          try simp only [List.set_cons_succ, List.set_cons_zero]
          refine anyK_take (i := 5) (v := ?v2009) rfl (by kernel_rfl) (by kernel_rfl) (by kernel_rfl) (by kernel_rfl) (fun _ _ _ h => h) (by rfl) hHeld ?hy2009 (some 53) (by rfl) ?rest2009
          case hy2009 => (intro W hSw; (try dsimp only at hSw); go_simp; (try with_reducible rfl))
          try simp only [Act.put]
          try simp only [List.setIfInBounds_toArray]
          try simp only [List.set_cons_succ, List.set_cons_zero]
          obtain ⟨RS2, RW2, RF2, RD2, RC2, hR2⟩ : ∃ (RS : List (List Int)) (RW : List (Int × List Int)) (RF : Int) (RD : Bool) (RC : Int), writeD ⟨S, Wt, F, D⟩ (x2 % 4) zeros = (⟨RS, RW, RF, RD⟩, RC) := ⟨_, _, _, _, _, rfl⟩
          have hb3 := hBk.out.write (by omega) (at' := x2 % 4) (by omega) (by omega) (z := zeros) (by simp [zeros])
          rw [hR2] at hb3
          simp only at hb3
          have HBu2 := hid hb3.1
          have HRC2 := hid hb3.2
          clear hb3
          have bM := (bel_al' HB4.out (.cells zrow 5) HB4.out.size).drew
          have bN := (bel_al (Below.refl W4.heap.size W4) (.cells zrow 5)).drew
          have HTM := hid (show x2.tmod 4 = x2 % 4 from Int.tmod_eq_emod_of_nonneg hx0)
          obtain ⟨_, _, e1, rz, _⟩ := Reads.own (zs := zeros) (by rw [← zrow_list]; exact (World.ownsRow_lit (base := W4.heap.size) (e := 5) (size := 1) W4 zrow 64 (Nat.le_refl _) (by unfold maxLen; omega) (by unfold zrow; rw [size_madeCells])).drew) zeros_bd
          obtain ⟨rfl, _, rfl⟩ := Value.slice.inj e1
          refine anyK_step (i := 7) (by kernel_rfl) rfl (fun K hK => ?_)
          go_simp
          rw [HTM.out]
          refine (impl_Write c1 c2 (x2 % 4) ((hrd.out.below HW4.out (Nat.le_refl _)).below bN (Nat.le_refl _)) hl1.out hl2.out 64 rz hF ((HV.out.below bM).up bM.size) hR2).mono ?_
          rintro e w6 ⟨aU, v1, cU, dU, v2, eU, u1, u2, rfl, o6, b6⟩
          have b6W := hid (bN.trans (b6.mono bN.size))
          have HZ6 := hid bN.size
          have O6 := hid o6
          have UU := hid (And.intro u1 u2)
          have T7u := hid ((b6W.out.block P (by have := HZ4.out; omega)).trans T7.out)
          have T4u := hid ((b6W.out.block G (by have := HZ4.out; omega)).trans T4.out)
          clear o6 b6 u1 u2 bN bM rz
          go_wp2_with fail
          refine hK.out _ _ ?_ (fun hH2 => ?_)
          · exact HKx.out _ b6W.out
          clear hK K hHeld
          have hHeld := hH2
          clear hH2
          try simp only [Act.put]
          try simp only [List.setIfInBounds_toArray]
          try simp only [List.set_cons_succ, List.set_cons_zero]
          refine anyK_take (i := 8) (v := ?v2010) rfl (by kernel_rfl) (by kernel_rfl) (by kernel_rfl) (by kernel_rfl) (fun _ _ _ h => h) (by rfl) hHeld ?hy2010 (some 47) (by rfl) ?rest2010
          case hy2010 => (intro W hSw; (try dsimp only at hSw); go_simp; (try with_reducible rfl))
          try simp only [Act.put]
          try simp only [List.setIfInBounds_toArray]
          try simp only [List.set_cons_succ, List.set_cons_zero]
          refine anyK_take (i := 9) (v := ?v2011) rfl (by kernel_rfl) (by kernel_rfl) (by kernel_rfl) (by kernel_rfl) (fun _ _ _ h => h) (by rfl) hHeld ?hy2011 (some 56) (by rfl) ?rest2011
          case hy2011 => (intro W hSw; (try dsimp only at hSw); go_simp; (try with_reducible rfl))
          try simp only [Act.put]
          try simp only [List.setIfInBounds_toArray]
          try simp only [List.set_cons_succ, List.set_cons_zero]
          refine anyK_take (i := 10) (v := ?v2012) rfl (by kernel_rfl) (by kernel_rfl) (by kernel_rfl) (by kernel_rfl) (fun _ _ _ h => h) (by rfl) hHeld ?hy2012 (some 57) (by rfl) ?rest2012
          case hy2012 => (intro W hSw; (try dsimp only at hSw); go_simp; (try with_reducible rfl))
          try simp only [Act.put]
          try simp only [List.setIfInBounds_toArray]
          try simp only [List.set_cons_succ, List.set_cons_zero]
          refine anyK_step (i := 11) (by kernel_rfl) rfl (fun K hK => ?_)
          rw [if_pos (by rfl)]
          refine wp_store_row 27 (.tmp 7) (.tmp 56) rfl P #[.slice aU v1 cU, .slice dU v2 eU, .int .i64 RF2, .bool RD2] rfl rfl 27 _ T7u.out sizeDk rfl (by simp [Value.oneCell']) ?_
          have TS : (w6.setRow P #[.slice aU v1 cU, .slice dU v2 eU, .int .i64 RF2, .bool RD2]).heap[G]? = some (.cells #[.slice a1 n1 c1, .slice a2 n2 c2, .int .i64 F, .bool D] 27) := by
            rw [setRow_other _ _ _ _ (by have := HZ4.out; omega)]
            exact T4u.out
          refine hK.out _ _ ?_ (fun hH2 => ?_)
          · exact ⟨by rw [cell_of_row _ _ _ _ _ _ TS]; rfl, by rw [cell_of_row _ _ _ _ _ _ TS]; rfl, by rw [cell_of_row _ _ _ _ _ _ TS]; rfl, by rw [cell_of_row _ _ _ _ _ _ TS]; rfl⟩
          clear hK K hHeld
          have hHeld := hH2
          clear hH2
          try simp only [Act.put]
          try simp only [List.setIfInBounds_toArray]
          try simp only [List.set_cons_succ, List.set_cons_zero]
          refine anyK_last (by kernel_rfl) rfl (fun K hK => ?_)
          go_simp
          refine hK.out _ _ ?_
          clear hK K hHeld
          refine anyK_done (by kernel_rfl) ?_ _
          have T7v := hid (setRow_heap w6 P _ #[.slice aU v1 cU, .slice dU v2 eU, .int .i64 RF2, .bool RD2] _ _ T7u.out)
          have T4v := hid TS
          have HRN2 := hid (show ReadsD ((w6.setRow P #[.slice aU v1 cU, .slice dU v2 eU, .int .i64 RF2, .bool RD2]).setRow G #[.slice aU v1 cU, .slice dU v2 eU, .int .i64 RF2, .bool RD2]) aU dU RS2 RW2 from (O6.out.agree (fun j h1 h2 => (setRow_other _ _ _ _ (by have := HZ4.out; have := HZ6.out; omega)).trans (setRow_other _ _ _ _ (by have := HZ4.out; have := HZ6.out; omega)))).rd)
          have HBN2 := hid (below_setRow (below_setRow (HB4.out.trans (b6W.out.mono HB4.out.size)) (show w.heap.size ≤ P by have := HZ4.out; have := HGw.out; omega) #[.slice aU v1 cU, .slice dU v2 eU, .int .i64 RF2, .bool RD2]) HGw.out #[.slice aU v1 cU, .slice dU v2 eU, .int .i64 RF2, .bool RD2])
          clear TS H4 HKx mk q HRN HBN HBu MM HRC O4 T7 T4 T7u T4u b6W HZ6 O6 HTM HWR
          generalize w6.setRow P #[.slice aU v1 cU, .slice dU v2 eU, .int .i64 RF2, .bool RD2] = W7 at *
          by_cases hkm : k < m
          · have hkm' : (k : Int) < (m : Int) := by omega
            have hkm2 : ¬ (m : Int) ≤ (k : Int) := by omega
            have hRC := HRC2.out
            rw [if_pos hkm] at hRC
            subst hRC
            clear HRC2
            go_wp2_with (first
              | (refine wpList_load_row rfl 27 (.tmp 7) rfl P rfl 27 _ (0, 0) _ T7v.out Tryd.underlying27 rfl sizeDk ?_)
              | (refine wpList_store_row rfl 27 (.tmp 4) (.tmp 58) rfl G #[.slice aU v1 cU, .slice dU v2 eU, .int .i64 RF2, .bool RD2] rfl rfl 27 _ T4v.out ?s1x3 ?s2x3 ?s3x3 ?_))
            case s1x3 => simpa using sizeDk
            case s3x3 => simp [Value.oneCell']
            go_wp2_with fail
            go_roundw
            case rel => exact ⟨k + 1, RS2, RW2, RF2, RD2, aU, v1, cU, dU, v2, eU, by omega, by go_num, HBu2, hid UU.out.1, hid UU.out.2, hid (setRow_heap _ _ _ _ _ _ T4v.out), HRN2, HBN2⟩
            case measure => simp [intOf]; omega
          · have hkm' : ¬ (k : Int) < (m : Int) := by omega
            have hkm2 : (m : Int) ≤ (k : Int) := by omega
            have hRC := HRC2.out
            rw [if_neg hkm] at hRC
            subst hRC
            clear HRC2
            go_wp2_with (first
              | (refine wpList_load_row rfl 27 (.tmp 7) rfl P rfl 27 _ (0, 0) _ T7v.out Tryd.underlying27 rfl sizeDk ?_)
              | (refine wpList_store_row rfl 27 (.tmp 4) (.tmp 58) rfl G #[.slice aU v1 cU, .slice dU v2 eU, .int .i64 RF2, .bool RD2] rfl rfl 27 _ T4v.out ?s1x4 ?s2x4 ?s3x4 ?_))
            case s1x4 => simpa using sizeDk
            case s3x4 => simp [Value.oneCell']
            go_wp2_with fail
            go_roundw
            case rel => exact ⟨k + 1, RS2, RW2, RF2, RD2, aU, v1, cU, dU, v2, eU, by omega, by go_num, HBu2, hid UU.out.1, hid UU.out.2, hid (setRow_heap _ _ _ _ _ _ T4v.out), HRN2, HBN2⟩
            case measure => simp [intOf]; omega
      · have q : (y % 2 == 0) = false := by simp [hy]
        by_cases hkm : k < m
        · have hkm' : (k : Int) < (m : Int) := by omega
          have hkm2 : ¬ (m : Int) ≤ (k : Int) := by omega
          have hRC := HRC.out
          rw [if_pos hkm] at hRC
          subst hRC
          clear HRC
          go_wp2_with (first
            | (refine wpList_load_row rfl 27 (.tmp 7) rfl P rfl 27 _ (0, 0) _ T7.out Tryd.underlying27 rfl sizeDk ?_)
            | (refine wpList_store_row rfl 27 (.tmp 4) (.tmp 58) rfl G #[.slice aQ q1 cQ, .slice dQ q2 eQ, .int .i64 RF, .bool RD] rfl rfl 27 _ T4.out ?s1x5 ?s2x5 ?s3x5 ?_))
          case s1x5 => exact sizeDk
          case s2x5 => rfl
          case s3x5 => simp [Value.oneCell']
          go_wp2_with fail
          go_roundw
          case rel => exact ⟨k + 1, RS, RW, RF, RD, aQ, q1, cQ, dQ, q2, eQ, by omega, by go_num, HBu, hid MM.out.1, hid MM.out.2, hid (setRow_heap _ _ _ _ _ _ T4.out), HRN, HBN⟩
          case measure => simp [intOf]; omega
        · have hkm' : ¬ (k : Int) < (m : Int) := by omega
          have hkm2 : (m : Int) ≤ (k : Int) := by omega
          have hRC := HRC.out
          rw [if_neg hkm] at hRC
          subst hRC
          clear HRC
          go_wp2_with (first
            | (refine wpList_load_row rfl 27 (.tmp 7) rfl P rfl 27 _ (0, 0) _ T7.out Tryd.underlying27 rfl sizeDk ?_)
            | (refine wpList_store_row rfl 27 (.tmp 4) (.tmp 58) rfl G #[.slice aQ q1 cQ, .slice dQ q2 eQ, .int .i64 RF, .bool RD] rfl rfl 27 _ T4.out ?s1x6 ?s2x6 ?s3x6 ?_))
          case s1x6 => exact sizeDk
          case s2x6 => rfl
          case s3x6 => simp [Value.oneCell']
          go_wp2_with fail
          go_roundw
          case rel => exact ⟨k + 1, RS, RW, RF, RD, aQ, q1, cQ, dQ, q2, eQ, by omega, by go_num, HBu, hid MM.out.1, hid MM.out.2, hid (setRow_heap _ _ _ _ _ _ T4.out), HRN, HBN⟩
          case measure => simp [intOf]; omega
    · have hlt' : ¬ (k : Int) < (m : Int) + 3 := by omega
      go_wp2_with fail
      obtain ⟨RS, RW, RF, RD, hR⟩ : ∃ (RS : List (List Int)) (RW : List (Int × List Int)) (RF : Int) (RD : Bool), syncD ⟨doneS S Wt [] false, [], -1, false⟩ = (⟨RS, RW, RF, RD⟩, 0) := by
        have o := okD_of hBk.out.ok
        obtain ⟨l1, l2⟩ := doneS_64 Wt S [] false o.s (fun j hj => (o.w j hj).2.2)
        have ok : okD ⟨doneS S Wt [] false, [], -1, false⟩ = true := okD_mk ⟨by simp only; rw [l1]; exact o.s0, by simp only; rw [l1]; exact o.s1, by simp, by simp, fun j hj => l2 j (by simp only at hj; omega), fun j hj => by simp at hj⟩
        rw [syncD_I ok]
        exact ⟨_, _, _, _, rfl⟩
      have hcr : crashD ⟨S, Wt, F, D⟩ [] = ⟨doneS S Wt [] false, [], -1, false⟩ := by unfold crashD; rw [if_pos hBk.out.ok]
      have HRR := hid hR
      have HS5 := hid ((HV.out.below hBl.out).up hBl.out.size)
      clear hR y0 y1 y2 y3
      refine (impl_Crash c1 c2 hrd.out hl1.out hl2.out 0 (aK := none) (nK := 0) (ks := []) ⟨rfl, .inl rfl⟩ hcr).mono ?_
      rintro e w6 ⟨aC, r1, cC, dC, r2, eC, k1, k2, rfl, o6, b6⟩
      have R6 := hid o6.rd
      have HB6 := hid (hBl.out.trans (b6.mono hBl.out.size))
      have HK := hid (And.intro k1 k2)
      clear o6 b6 hcr k1 k2
      go_wp2_with fail
      refine (impl_Sync cC eC R6.out HK.out.1 HK.out.2 (by omega) ((HV.out.below HB6.out).up HB6.out.size) HRR.out).mono ?_
      rintro e w7 ⟨aX, x1, cX, dX, x2, eX, j1, j2, rfl, o7, b7⟩
      have HB7 := hid ((HB6.out.trans (b7.mono HB6.out.size)).alloc (HB6.out.trans (b7.mono HB6.out.size)).size (.cells #[.slice aX x1 cX, .slice dX x2 eX, .int .i64 RF, .bool RD] 27))
      clear o7 b7 j1 j2
      go_wp2_with fail
      go_ret
      exact ⟨rfl, HB7.out⟩
end Go.Proofs.YtnnnehjlegjejaaDoor
