/- The contract of the program's write, a method that changes a disk in place. Conditions: a disk that is DiskOk, 64 bytes; the two variables hold two different sentinels. -/
import Derived.Test.YtnnnehjlegjejaaDoorYs
namespace Go.Proofs.YtnnnehjlegjejaaDoor
open Go.RowKit

theorem Bands.oth {w w' : World} {lo hi p : Nat} {t : TypeId} {xs : List Value} {ss : List (List Int)} {cs : Array Value} {f : Nat × Nat} (h : Bands w lo hi xs ss) (hb : w.heap[p]? = some (.cells cs t f)) (hne : t ≠ 5) (o : ∀ q, q ≠ p → w'.heap[q]? = w.heap[q]?) : Bands w' lo hi xs ss :=
  ⟨h.len, fun i => owns_oth (h.own i) hb hne o, h.top, h.apart, h.bd⟩

def writeI (d : Dk) (at' : Int) (z : List Int) : Dk × Int := if 600 ≤ d.W.length then (d, 2) else if (callD d).2 = true then (⟨d.S, d.W ++ [(at', z)], (callD d).1.F, (callD d).1.D⟩, 0) else (⟨d.S, d.W, (callD d).1.F, (callD d).1.D⟩, 3)

set_option maxRecDepth 100000 in
set_option maxHeartbeats 6400000 in
theorem impl_write {lo hi p B : Nat} {a1 : Option Addr} {nS c1 : Nat} {a2 : Option Addr} {nW c2 : Nat} {F : Int} {D : Bool} {xs ys : List Value} {ss : List (List Int)} {ws : List (Int × List Int)} {w : World} (at' : Int) {aD : Option Addr} (cD : Nat) {z : List Int} (h : Live w lo hi p a1 nS c1 a2 nW c2 F D xs ys ss ws) (hh : hi ≤ w.heap.size)
    {s0 s1 : Addr} {e0 e1 : Array Value} {u0 u1 : TypeId} (hs : Sents w B s0 s1 e0 e1 u0 u1) (hD : ∀ X, Below B w X → Reads X aD 64 z) (hF : F ≤ 9223372036854775807) (hB1 : B ≤ lo) (hB2 : B ≤ p) (hp : hi ≤ p) (hB3 : B ≤ w.heap.size) (hlo : lo ≤ w.heap.size) (lS : ss.length = nS) (lW : ws.length = nW) (hnW : nW ≤ 600) :
    Calls Tryd.prog 38 #[.pointer (some ⟨p, 0, none⟩), .int .i64 at', .slice aD 64 cD] w fun e w' => Left w w' B lo p a1 nS c1 s0 s1 (writeI ⟨ss, ws, F, D⟩ at' z) e := by
  obtain ⟨j0, ji, jz0, jz1, jz2⟩ := info_parts Tryd.infoWr
  have c0 : w.cell? ⟨p, 1, none⟩ = some (.slice a2 nW c2) := by rw [cell_of_row _ _ _ _ _ _ h.box]; rfl
  have v0 := hs.v0
  have HT := hid (take_call (ss := ss) (ws := ws) hs hB2 hF h.box)
  have HL0 := hid h
  have HDr := hid hD
  have HH0 := hid (And.intro hh (And.intro hB1 (And.intro hB2 (And.intro hB3 hlo))))
  have HP := hid hp
  clear h hh hB1 hB2 hB3 hp hs hD hlo
  by_cases hful : 600 ≤ nW
  · have q : (600 : Int) ≤ (nW : Int) := by omega
    have HSy := hid (show writeI ⟨ss, ws, F, D⟩ at' z = (⟨ss, ws, F, D⟩, 2) by unfold writeI; rw [if_pos (by simp only; omega)])
    clear HT
    go_enter Tryd.func38, Tryd.ntmps38
    go_wp2_with fail
    go_ret
    rw [HSy.out]
    exact ⟨⟨_, a2, nW, c2, rfl, Code.full _ _, lW, HL0.out.box, HL0.out.own HH0.out.1 lS lW⟩, Below.refl _ _⟩
  · have q : ¬ (600 : Int) ≤ (nW : Int) := by omega
    go_enter Tryd.func38, Tryd.ntmps38
    go_wp2_with fail
    clear c0 v0
    refine HT.out.mono ?_
    rintro e wt ht
    have HLv := hid (HL0.out.took HP.out ht)
    have HHh := hid (show hi ≤ wt.heap.size ∧ B ≤ lo ∧ B ≤ p ∧ B ≤ wt.heap.size ∧ lo ≤ wt.heap.size by have := ht.size; have := HH0.out; omega)
    have HBt := hid ht.bel
    have HR : Hid (((callD ⟨ss, ws, F, D⟩).2 = true ∧ e = .returned .nilIface) ∨ ((callD ⟨ss, ws, F, D⟩).2 = false ∧ e = .returned (.iface 114 (.pointer (some s1))))) := hid ht.ans
    clear ht HT HL0 HH0
    generalize hG : (callD ⟨ss, ws, F, D⟩).1.F = F' at *
    generalize hGD : (callD ⟨ss, ws, F, D⟩).1.D = D' at *
    rcases HR.out with ⟨hok, rfl⟩ | ⟨hok, rfl⟩
    · have HSy := hid (show writeI ⟨ss, ws, F, D⟩ at' z = (⟨ss, ws ++ [(at', z)], F', D'⟩, 0) by unfold writeI; rw [if_neg (by simp only; omega), if_pos hok, hG, hGD])
      have hL' := HLv.out
      have c0 : wt.cell? ⟨p, 1, none⟩ = some (.slice a2 nW c2) := by rw [cell_of_row _ _ _ _ _ _ hL'.box]; rfl
      have f0 : wt.frozen? ⟨p, 1, none⟩ = false := frozen_of_row _ _ _ _ _ hL'.box
      have HPl := hid (show p < wt.heap.size from (Array.getElem?_eq_some_iff.1 hL'.box).1)
      have HK' := hid (show ∀ X, Below wt.heap.size wt X → X.cell? ⟨p, 1, none⟩ = some (.slice a2 nW c2) ∧ X.frozen? ⟨p, 1, none⟩ = false from fun X b => ⟨(b.cell (p := ⟨p, 1, none⟩) HPl.out).trans c0, (b.frozen (p := ⟨p, 1, none⟩) HPl.out).trans f0⟩)
      have HNE := hid (show some p ≠ (Value.slice a2 nW c2).ownBlock from fun e => heap_ty hL'.box hL'.rw e.symm (by decide) rfl)
      have hRz := HDr.out wt HBt.out
      have Hbd := hid hRz.bd
      have HM := hid hRz.len
      have HRz := hid hRz
      have howW := hid hL'.rw
      have hown := hid hL'.rs
      have hB := hid (hL'.bands.mono (Nat.le_refl _) HHh.out.1)
      have HBOX := hid hL'.box
      have HLX := hid (And.intro hL'.lx hL'.ly)
      clear HR hok HLv hG hGD hL' c0 f0 hRz
      go_wp2_with fail
      refine region_K 13 (fun X => X.cell? ⟨p, 1, none⟩ = some (.slice a2 nW c2) ∧ X.frozen? ⟨p, 1, none⟩ = false) (by kernel_rfl) ?_ (fun hHeld => ?_)
      · exact HK'.out _ ((Below.refl _ wt).drew)
      refine anyK_take (i := 0) (v := ?v1401) rfl (by kernel_rfl) (by kernel_rfl) (by kernel_rfl) (by kernel_rfl) (fun _ _ _ h => h) (by rfl) hHeld ?hy1401 (some 20) (by rfl) ?rest1401
      case hy1401 => (intro W hSw; (try dsimp only at hSw); go_simp; (try with_reducible rfl))
      try simp only [Act.put]
      try simp only [List.setIfInBounds_toArray]
      try simp only [List.set_cons_succ, List.set_cons_zero]
      refine anyK_take (i := 1) (v := ?v1402) rfl (by kernel_rfl) (by kernel_rfl) (by kernel_rfl) (by kernel_rfl) (fun _ _ _ h => h) (by rfl) hHeld ?hy1402 (some 21) (by rfl) ?rest1402
      case hy1402 => (intro W hSw; (try dsimp only at hSw); go_simp; (try with_reducible rfl))
      try simp only [Act.put]
      try simp only [List.setIfInBounds_toArray]
      try simp only [List.set_cons_succ, List.set_cons_zero]
      refine anyK_take (i := 2) (v := ?v1403) rfl (by kernel_rfl) (by kernel_rfl) (by kernel_rfl) (by kernel_rfl) (fun _ _ _ h => h) (by rfl) hHeld ?hy1403 (some 22) (by rfl) ?rest1403
      case hy1403 => (intro W hSw; (try dsimp only at hSw); go_simp; (try with_reducible rfl))
      try simp only [Act.put]
      try simp only [List.setIfInBounds_toArray]
      try simp only [List.set_cons_succ, List.set_cons_zero]
      refine anyK_take (i := 3) (v := ?v1404) rfl (by kernel_rfl) (by kernel_rfl) (by kernel_rfl) (by kernel_rfl) (fun _ _ _ h => h) (by rfl) hHeld ?hy1404 (some 23) (by rfl) ?rest1404
      case hy1404 => (intro W hSw; (try dsimp only at hSw); go_simp; (try with_reducible rfl))
      try simp only [Act.put]
      try simp only [List.setIfInBounds_toArray]
      try simp only [List.set_cons_succ, List.set_cons_zero]
      refine anyK_take (i := 4) (v := ?v1405) rfl (by kernel_rfl) (by kernel_rfl) (by kernel_rfl) (by kernel_rfl) (fun _ _ _ h => h) (by rfl) hHeld ?hy1405 (some 24) (by rfl) ?rest1405
      case hy1405 => (intro W hSw; (try dsimp only at hSw); go_simp; (try with_reducible rfl))
      try simp only [Act.put]
      try simp only [List.setIfInBounds_toArray]
      try simp only [List.set_cons_succ, List.set_cons_zero]
      refine anyK_take (i := 5) (v := ?v1406) rfl (by kernel_rfl) (by kernel_rfl) (by kernel_rfl) (by kernel_rfl) (fun _ _ _ h => h) (by rfl) hHeld ?hy1406 (some 25) (by rfl) ?rest1406
      case hy1406 => (intro W hSw; (try dsimp only at hSw); go_simp; (try with_reducible rfl))
      try simp only [Act.put]
      try simp only [List.setIfInBounds_toArray]
      try simp only [List.set_cons_succ, List.set_cons_zero]
      refine anyK_take (i := 6) (v := ?v1407) rfl (by kernel_rfl) (by kernel_rfl) (by kernel_rfl) (by kernel_rfl) (fun _ _ _ h => h) (by rfl) hHeld ?hy1407 (some 26) (by rfl) ?rest1407
      case hy1407 => (intro W hSw; (try dsimp only at hSw); go_simp; (try with_reducible rfl))
      try simp only [Act.put]
      try simp only [List.setIfInBounds_toArray]
      try simp only [List.set_cons_succ, List.set_cons_zero]
      refine anyK_step (i := 7) (by kernel_rfl) rfl (fun K hK => ?_)
      go_simp
      refine (bytes_clone cD (HRz.out.below (Below.refl _ wt).drew (Nat.le_refl _)) (by omega)).mono ?_
      rintro e u ⟨vc, rfl, o, b1⟩
      have bu := (Below.refl wt.heap.size wt).drew.trans b1
      obtain ⟨av, cv, rfl, _, _⟩ := Reads.own o Hbd.out
      have HO1 := hid o
      have HBU := hid bu
      clear o b1 bu
      go_wp2_with fail
      refine hK.out _ _ ?_ (fun hH2 => ?_)
      · exact HK'.out _ HBU.out
      clear hK K hHeld
      have hHeld := hH2
      clear hH2
      try simp only [Act.put]
      try simp only [List.setIfInBounds_toArray]
      try simp only [List.set_cons_succ, List.set_cons_zero]
      refine anyK_take (i := 8) (v := ?v1409) rfl (by kernel_rfl) (by kernel_rfl) (by kernel_rfl) (by kernel_rfl) (fun _ _ _ h => h) (by rfl) hHeld ?hy1409 (some 28) (by rfl) ?rest1409
      case hy1409 => (intro W hSw; (try dsimp only at hSw); go_simp; (try with_reducible rfl))
      try simp only [Act.put]
      try simp only [List.setIfInBounds_toArray]
      try simp only [List.set_cons_succ, List.set_cons_zero]
      refine anyK_step (i := 9) (by kernel_rfl) rfl (fun K hK => ?_)
      go_simp
      refine hK.out _ _ ?_ (fun hH2 => ?_)
      · exact HK'.out _ (bel_al HBU.out _)
      clear hK K hHeld
      have hHeld := hH2
      clear hH2
      try simp only [Act.put]
      try simp only [List.setIfInBounds_toArray]
      try simp only [List.set_cons_succ, List.set_cons_zero]
      refine anyK_step (i := 10) (by kernel_rfl) rfl (fun K hK => ?_)
      refine step_append_lies _ (by rfl) _ _ _ (by rfl) lo 40 j0 (.agg #[.int .i64 0, .slice none 0 0]) 2 32 Tryd.underlying25 ji jz0 jz1 jz2 rfl (by omega) (.slice a2 nW c2) nW (cellsW ws ys) (by rfl) (owns_below (bel_al HBU.out _) (Nat.le_refl _) howW.out) ⟨u.heap.size, 0, none⟩ 1 1 [.int .i64 at', .slice av 64 cv] (by rfl) rfl (World.news_of_block (heap_alloc_new u _)) (by simp [Value.oneCell']) (by omega) (by unfold maxLen; omega) (by omega) (by have := HHh.out.2.2.2.2; have := HBU.out.size; simp; omega) _ rfl ?_
      intro g' cap w1 hown1 hgrow hat hlt1
      obtain ⟨s1', s2'⟩ := HK'.out _ (bel_al HBU.out (.cells #[.int .i64 at', .slice av 64 cv] 40))
      have k0 := hgrow.cell s1' HNE.out
      have k1 := (hgrow.frozen_far ⟨p, 1, none⟩ (by have := HPl.out; have := HBU.out.size; simp; omega) HNE.out).trans s2'
      clear s1' s2'
      refine hK.out _ _ ?_ (fun hH2 => ?_)
      · exact ⟨k0, k1⟩
      clear hK K hHeld
      have hHeld := hH2
      clear hH2
      try simp only [Act.put]
      try simp only [List.setIfInBounds_toArray]
      try simp only [List.set_cons_succ, List.set_cons_zero]
      refine anyK_step (i := 11) (by kernel_rfl) rfl (fun K hK => ?_)
      go_simp
      refine hK.out _ _ ?_ (fun hH2 => ?_)
      · exact hHeld
      clear hK K hHeld
      have hHeld := hH2
      clear hH2
      try simp only [Act.put]
      try simp only [List.setIfInBounds_toArray]
      try simp only [List.set_cons_succ, List.set_cons_zero]
      refine anyK_take (i := 12) (v := ?v1413) rfl (by kernel_rfl) (by kernel_rfl) (by kernel_rfl) (by kernel_rfl) (fun _ _ _ h => h) (by rfl) hHeld ?hy1413 (some 32) (by rfl) ?rest1413
      case hy1413 => (intro W hSw; (try dsimp only at hSw); go_simp; (try with_reducible rfl))
      try simp only [Act.put]
      try simp only [List.setIfInBounds_toArray]
      try simp only [List.set_cons_succ, List.set_cons_zero]
      refine anyK_last (by kernel_rfl) rfl (fun K hK => ?_)
      go_simp
      refine hK.out _ _ ?_
      clear hK K hHeld
      refine anyK_done (by kernel_rfl) ?_ _
      have bX := bel_al HBU.out (.cells #[.int .i64 at', .slice av 64 cv] 40)
      have oWX := owns_below bX (Nat.le_refl _) howW.out
      have oSX := owns_below bX (Nat.le_refl _) hown.out
      have hB1 := hB.out.grow HHh.out.2.2.2.2 bX (by rw [HM.out]; exact HO1.out.alloc _) Hbd.out oWX (by decide) hgrow
      have oS1 := oSX.kept hgrow (owns_ne oSX oWX (by decide))
      rw [← cellsW_snoc ws ys (at', z) (.slice av 64 cv) HLX.out.2] at hown1
      have V3 : w1.heap[p]? = _ := (hgrow.block p (by have := bX.size; have := HPl.out; omega) HNE.out).trans ((bX.block p HPl.out).trans HBOX.out)
      have U3 := hid (heap_setCell_same w1 p 1 _ 27 (.slice (some ⟨g', 0, none⟩) (nW + 1) cap) V3)
      have oth : ∀ q, q ≠ p → (w1.setCell ⟨p, 1, none⟩ (.slice (some ⟨g', 0, none⟩) (nW + 1) cap)).heap[q]? = w1.heap[q]? := fun q hq => heap_set_ne _ _ _ _ _ hq
      have HO := hid (owns_oth hown1 V3 (by decide) oth)
      have HS1 := hid (owns_oth oS1 V3 (by decide) oth)
      have HBs0 : Bands w1 lo w1.heap.size ((xs ++ ys) ++ [.slice av 64 cv]) ((ss ++ ws.map (·.2)) ++ [z]) := hB1
      have hsz1 : (w1.setCell ⟨p, 1, none⟩ (.slice (some ⟨g', 0, none⟩) (nW + 1) cap)).heap.size = w1.heap.size := by simp
      have HBs := hid (HBs0.oth V3 (by decide) oth)
      have HBl := hid (((HBt.out.trans (bX.mono HHh.out.2.2.2.1)).grown hgrow (Nat.le_trans HHh.out.2.2.2.1 bX.size) (fun q hq => by have := (howW.out.lt q hq).1; have := HHh.out; omega)).setCell (p := ⟨p, 1, none⟩) HHh.out.2.2.1 (.slice (some ⟨g', 0, none⟩) (nW + 1) cap))
      have HZ1 := hid hsz1
      have HL1 := hid (show ∀ q, (Value.slice a1 nS c1).ownBlock = some q → q < w1.heap.size from fun q hq => (oS1.lt q hq).2)
      have HL2 := hid (show ∀ q, (Value.slice (some ⟨g', 0, none⟩) (nW + 1) cap).ownBlock = some q → q < w1.heap.size from fun q hq => (hown1.lt q hq).2)
      clear bX oWX oSX hB1 oS1 V3 oth hown1 hgrow hat hlt1 k0 k1 HBs0 hsz1
      go_wp2_with fail
      go_ret
      rw [HSy.out]
      have l1 : (ws ++ [(at', z)]).length = nW + 1 := by simp [lW]
      refine ⟨⟨_, some ⟨g', 0, none⟩, nW + 1, cap, rfl, Code.well _ _, l1, U3.out, ⟨⟨xs, ys ++ [.slice av 64 cv], HLX.out.1, by simp [HLX.out.2], ?_, by rw [lS]; exact HS1.out, by rw [l1]; exact HO.out⟩, fun q hq => by rw [HZ1.out]; exact HL1.out q hq, fun q hq => by rw [HZ1.out]; exact HL2.out q hq⟩⟩, HBl.out⟩
      rw [HZ1.out, ← List.append_assoc, List.map_append, ← List.append_assoc]
      exact HBs.out
    · have HSy := hid (show writeI ⟨ss, ws, F, D⟩ at' z = (⟨ss, ws, F', D'⟩, 3) by unfold writeI; rw [if_neg (by simp only; omega), if_neg (by rw [hok]; simp), hG, hGD])
      clear HR hok hG hGD
      go_wp2_with fail
      go_ret
      rw [HSy.out]
      exact ⟨⟨_, a2, nW, c2, rfl, Code.down _ _, lW, HLv.out.box, HLv.out.own HHh.out.1 lS lW⟩, HBt.out⟩
end Go.Proofs.YtnnnehjlegjejaaDoor
