/- The contracts of the laws' markByteSS, markWriteS, markDisk at a disk of the call's own, and of heldByteSS, heldWriteS, heldDisk behind them. Conditions: sizes of at most 2^21, numbers of at most 10^9. -/
import Derived.Test.YtnnnehjlegjejaaDoorDz
namespace Go.Proofs.YtnnnehjlegjejaaDoor
open Go.RowKit

def tw (ws : List (Int × List Int)) : Nat := ws.length + totW ws
def mkW : Int → List (Int × List Int) → List (Int × List Int)
  | _, [] => []
  | k, p :: ws => (k, marks (k + 1) p.2.length) :: mkW (k + 1 + p.2.length) ws
theorem mkW_length : ∀ (k : Int) (ws : List (Int × List Int)), (mkW k ws).length = ws.length
  | _, [] => rfl
  | k, p :: ws => by simp [mkW, mkW_length]
theorem tw_cons (p : Int × List Int) (ws : List (Int × List Int)) : tw (p :: ws) = 1 + p.2.length + tw ws := by simp [tw, totW, tot]; omega
theorem mkW_at : ∀ (k : Int) (ws : List (Int × List Int)) (i : Nat), i < ws.length → (mkW k ws).getD i w0 = (k + tw (ws.take i), marks (k + tw (ws.take i) + 1) (ws.getD i w0).2.length)
  | k, p :: ws, 0, _ => by simp [mkW, tw, totW, tot]
  | k, p :: ws, i + 1, h => by
    have := mkW_at (k + 1 + p.2.length) ws i (by simpa using h)
    simp only [mkW, List.getD_cons_succ, List.take_succ_cons, tw_cons]
    rw [this]
    congr 1
    · omega
    · congr 1
      omega
theorem tw_step (ws : List (Int × List Int)) (k : Nat) (h : k < ws.length) : tw (ws.take (k + 1)) = tw (ws.take k) + 1 + (ws.getD k w0).2.length := by
  have h1 := tot_step (ws.map (·.2)) k (by simpa using h)
  rw [map2_getD, ← List.map_take, ← List.map_take] at h1
  unfold tw totW
  rw [h1, List.length_take, List.length_take]
  omega
theorem tw_take (ws : List (Int × List Int)) (k : Nat) : tw (ws.take k) ≤ tw ws := by
  have h1 := tot_take (ws.map (·.2)) k
  rw [← List.map_take] at h1
  unfold tw totW
  rw [List.length_take]
  omega
theorem mkW_snoc (k : Int) (ws : List (Int × List Int)) (i : Nat) (h : i < ws.length) : mkW k (ws.take (i + 1)) = mkW k (ws.take i) ++ [(k + tw (ws.take i), marks (k + tw (ws.take i) + 1) (ws.getD i w0).2.length)] := by
  induction ws generalizing k i with
  | nil => simp at h
  | cons p ws ih =>
    cases i with
    | zero => simp [mkW, tw, totW, tot]
    | succ i =>
      have := ih (k + 1 + p.2.length) i (by simpa using h)
      simp only [List.take_succ_cons, mkW, List.getD_cons_succ, tw_cons, List.cons_append]
      rw [this, show k + 1 + (p.2.length : Int) + (tw (List.take i ws) : Int) = k + ((1 + p.2.length + tw (List.take i ws) : Nat) : Int) by omega]
theorem set_mkW (k : Int) (ws : List (Int × List Int)) (i : Nat) (h : i < ws.length) : (mkW k (ws.take i) ++ ws.drop i).set i (k + tw (ws.take i), marks (k + tw (ws.take i) + 1) (ws.getD i w0).2.length) = mkW k (ws.take (i + 1)) ++ ws.drop (i + 1) := by
  have hl : (mkW k (ws.take i)).length = i := by rw [mkW_length, List.length_take]; omega
  rw [List.set_append_right _ _ (by omega), hl, Nat.sub_self, List.drop_eq_getElem_cons h, List.set_cons_zero, mkW_snoc k ws i h]
  simp

theorem getD_left {α : Type} (xs ys : List α) (i : Nat) (d : α) (h : i < xs.length) : (xs ++ ys).getD i d = xs.getD i d := by rw [getD_app, if_pos h]
theorem getD_right {α : Type} (xs ys : List α) (i : Nat) (d : α) : (xs ++ ys).getD (xs.length + i) d = ys.getD i d := by rw [getD_app, if_neg (by omega), show xs.length + i - xs.length = i by omega]
theorem mkdrop_at (k : Int) (ss : List (List Int)) (i : Nat) (h : i < ss.length) : (mkS k (ss.take i) ++ ss.drop i).getD i [] = ss.getD i [] := by
  have hl : (mkS k (ss.take i)).length = i := by rw [mkS_length, List.length_take]; omega
  rw [getD_app, if_neg (by omega), hl, Nat.sub_self]
  simp [List.getD]
theorem mkdropW_at (k : Int) (ws : List (Int × List Int)) (i : Nat) (h : i < ws.length) : (mkW k (ws.take i) ++ ws.drop i).getD i w0 = ws.getD i w0 := by
  have hl : (mkW k (ws.take i)).length = i := by rw [mkW_length, List.length_take]; omega
  rw [getD_app, if_neg (by omega), hl, Nat.sub_self]
  simp [List.getD]
theorem cell_getD {w : World} {lo n : Nat} {g cap : Nat} {xs : List Value} (o : w.ownsRow lo 22 1 (.slice (some ⟨g, 0, none⟩) n cap) n xs) {i : Nat} (hi : i < n) : w.cell? ⟨g, i, none⟩ = some (xs.getD i nilS) := by
  rw [o.cellAt i (by omega), List.getD_eq_getElem?_getD]
  have := o.1
  rw [List.getElem?_eq_getElem (by omega)]
  rfl

set_option maxRecDepth 100000 in
set_option maxHeartbeats 1600000 in
theorem markByteSS {lo hi n : Nat} {vS : Value} {e1 : TypeId} {s1 n1 : Nat} {vW : Value} {cs : List Value} {xs ys : List Value} {ss ts : List (List Int)} {w : World} (k : Int) (hne : e1 ≠ 5) (hl : ss.length = n) (hx : xs.length = n) (hn : n ≤ 2097152) (ht : tot ss ≤ 2097152) (hk0 : 0 ≤ k) (hk1 : k ≤ 500000000)
    (oS : w.ownsRow lo 22 1 vS n xs) (oW : w.ownsRow lo e1 s1 vW n1 cs) (hB : Bands w lo hi (xs ++ ys) (ss ++ ts)) :
    Calls Tryd.prog 51 #[vS, .int .i64 k] w fun e w' => e = .returned (.int .i64 (k + tot ss)) ∧ w'.ownsRow lo 22 1 vS n xs ∧ w'.ownsRow lo e1 s1 vW n1 cs ∧ Bands w' lo hi (xs ++ ys) (mkS k ss ++ ts) ∧ Within lo hi w w' := by
  rcases oS.2 with ⟨rfl, h0⟩ | ⟨g, cap, cur, rfl, _⟩
  · subst h0
    obtain rfl : ss = [] := List.eq_nil_of_length_eq_zero hl
    have O1 := hid oS
    have O2 := hid oW
    have O3 := hid hB
    clear oS oW hB
    go_enter Tryd.func51, Tryd.ntmps51
    go_wp2
    go_loopw [1, 5] (fun kk i wr => i = .int .i64 (0 : Nat) ∧ kk = .int .i64 k ∧ wr = w) (fun _ _ _ => 0)
    case atStart => exact ⟨rfl, rfl, rfl⟩
    case round =>
      obtain ⟨rfl, rfl, rfl⟩ := hrel
      go_wp2
      go_ret
      exact ⟨by simp [tot], O1.out, O2.out, O3.out, Within.refl _ _ _⟩
  · have O1 := hid oS
    have O2 := hid oW
    have O3 := hid hB
    clear oS oW hB
    go_enter Tryd.func51, Tryd.ntmps51
    go_wp2
    go_loopw [1, 5] (fun kk i wr => ∃ (j : Nat) (q : Int), j ≤ n ∧ i = .int .i64 j ∧ kk = .int .i64 q ∧ 0 ≤ q ∧ q ≤ 1000000000 ∧ Hid (q = k + tot (ss.take j)) ∧ Hid (wr.ownsRow lo 22 1 (.slice (some ⟨g, 0, none⟩) n cap) n xs) ∧ Hid (wr.ownsRow lo e1 s1 vW n1 cs) ∧ Hid (Bands wr lo hi (xs ++ ys) ((mkS k (ss.take j) ++ ss.drop j) ++ ts)) ∧ Hid (Within lo hi w wr)) (fun _ i _ => n - (intOf i).toNat)
    case atStart => exact ⟨0, k, Nat.zero_le _, rfl, rfl, hk0, by omega, hid (by simp [tot]), O1, O2, hid (by simpa [mkS] using O3.out), hid (Within.refl _ _ _)⟩
    case round =>
      obtain ⟨j, q, hj, rfl, rfl, hq0, hq1, HQ, hS, hW, hB, hG⟩ := hrel
      by_cases hlt : j < n
      · have hlt' : (j : Int) < (n : Int) := by omega
        have hj0 : (0 : Int) ≤ (j : Int) := by omega
        have hc := cell_getD hS.out hlt
        have ho := hB.out.own j
        have hlW : (mkS k (ss.take j) ++ ss.drop j).length = n := by rw [List.length_append, mkS_length, List.length_take, List.length_drop]; omega
        rw [getD_left xs ys j nilS (by omega), getD_left _ ts j [] (by omega), mkdrop_at k ss j (by omega)] at ho
        have HT := hid (tot_step ss j (by omega))
        have HU := hid (tot_take ss (j + 1))
        have HSt := hid (set_mkS k ss j (by omega))
        generalize ss.getD j [] = zs at *
        obtain ⟨m, hm'⟩ : ∃ m, zs.length = m := ⟨_, rfl⟩
        rw [hm'] at ho HT HSt
        clear hm'
        have HO' := hid ho
        rcases ho.2 with ⟨hv, hm⟩ | ⟨g', cap', cur', hv, hrest⟩
        all_goals
          have HO := hid HO'.out
          rw [hv] at HO hc
          have HV := hid hv
          clear hv ho HO'
          first | clear hm | clear hrest
          go_wp2_with fail
          refine (markByteS_any q (by have := HT.out; have := HU.out; omega) (by omega) (by omega) HO.out).mono ?_
          rintro e w1 ⟨rfl, o1, g1⟩
          have hp := hB.out.put (i := j) (z := marks q m) (by rw [List.length_append, hlW]; omega) (by rw [getD_left xs ys j nilS (by omega), HV.out]; exact g1) (by rw [getD_left xs ys j nilS (by omega), HV.out, marks_length]; exact o1) (marks_bd q m)
          rw [List.set_append_left _ _ (by omega), HQ.out, HSt.out] at hp
          have N1 := hid (hS.out.kept g1 (owns_ne hS.out HO.out (by decide)))
          have N2 := hid (hW.out.kept g1 (owns_ne hW.out HO.out hne))
          have N3 := hid hp
          have N4 := hid (hG.out.trans (Within.grown g1 (fun k' hk' => by have := hB.out.inr j; rw [getD_left xs ys j nilS (by omega), HV.out] at this; exact this k' hk')))
          clear o1 g1 hp
          go_wp2_with fail
          go_roundw
          case rel => exact ⟨j + 1, q + m, by omega, by go_num, rfl, by omega, by have := HT.out; have := HU.out; have := HQ.out; omega, hid (by have := HT.out; have := HQ.out; omega), N1, N2, N3, N4⟩
          case measure => simp [intOf]; omega
      · have hlt' : ¬ (j : Int) < (n : Int) := by omega
        go_wp2
        go_ret
        have hQ := HQ.out
        have h3 := hB.out
        rw [List.take_of_length_le (by omega)] at hQ h3
        rw [List.drop_eq_nil_of_le (by omega), List.append_nil] at h3
        exact ⟨by rw [hQ]; rfl, hS.out, hW.out, h3, hG.out⟩

theorem cellW_at {w : World} {lo n : Nat} {g cap : Nat} {ws : List (Int × List Int)} {ys : List Value} (hl : ws.length = n) (hy : ys.length = n) (o : w.ownsRow lo 40 2 (.slice (some ⟨g, 0, none⟩) n cap) n (cellsW ws ys)) {i : Nat} (hi : i < n) : w.cell? ⟨g, i * 2, none⟩ = some (.int .i64 (ws.getD i w0).1) ∧ w.cell? ⟨g, i * 2 + 1, none⟩ = some (ys.getD i nilS) := by
  have := cellsW_at ws ys i (by omega) (by omega)
  rw [o.cellAt (i * 2) (by omega), o.cellAt (i * 2 + 1) (by omega)]
  exact this
theorem cellsW_set1 : ∀ (ws : List (Int × List Int)) (ys : List Value) (k : Nat) (a : Int) (z : List Int), ys.length = ws.length → k < ws.length → (cellsW ws ys).set (k * 2) (.int .i64 a) = cellsW (ws.set k (a, z)) ys
  | q :: ws, x :: ys, 0, a, z, _, _ => by simp [cellsW]
  | q :: ws, x :: ys, k + 1, a, z, h, hk => by
    have ih := cellsW_set1 ws ys k a z (by simpa using h) (by simpa using hk)
    rw [show (k + 1) * 2 = k * 2 + 1 + 1 by omega]
    simp only [cellsW, List.set_cons_succ, ih]

set_option maxRecDepth 100000 in
set_option maxHeartbeats 1600000 in
theorem markWriteS {lo hi n : Nat} {vW : Value} {s1 n1 : Nat} {vS : Value} {cs : List Value} {xs ys : List Value} {ss : List (List Int)} {ws : List (Int × List Int)} {w : World} (k : Int) (hl : ws.length = n) (hx : xs.length = ss.length) (hy : ys.length = n) (hn : n ≤ 2097152) (ht : tw ws ≤ 2097152) (hk0 : 0 ≤ k) (hk1 : k ≤ 500000000)
    (oW : w.ownsRow lo 40 2 vW n (cellsW ws ys)) (oS : w.ownsRow lo 22 s1 vS n1 cs) (hB : Bands w lo hi (xs ++ ys) (ss ++ ws.map (·.2))) (htop : ∀ g, vW.ownBlock = some g → g < hi) :
    Calls Tryd.prog 52 #[vW, .int .i64 k] w fun e w' => e = .returned (.int .i64 (k + tw ws)) ∧ w'.ownsRow lo 40 2 vW n (cellsW (mkW k ws) ys) ∧ w'.ownsRow lo 22 s1 vS n1 cs ∧ Bands w' lo hi (xs ++ ys) (ss ++ (mkW k ws).map (·.2)) ∧ Within lo hi w w' := by
  rcases oW.2 with ⟨rfl, h0⟩ | ⟨g, cap, cur, rfl, hlg, _⟩
  · subst h0
    obtain rfl : ws = [] := List.eq_nil_of_length_eq_zero hl
    have O1 := hid oS
    have O2 := hid oW
    have O3 := hid hB
    clear oS oW hB
    go_enter Tryd.func52, Tryd.ntmps52
    go_wp2
    go_loopw [1, 5] (fun kk i wr => i = .int .i64 (0 : Nat) ∧ kk = .int .i64 k ∧ wr = w) (fun _ _ _ => 0)
    case atStart => exact ⟨rfl, rfl, rfl⟩
    case round =>
      obtain ⟨rfl, rfl, rfl⟩ := hrel
      go_wp2
      go_ret
      exact ⟨by simp [tw, totW, tot], O2.out, O1.out, O3.out, Within.refl _ _ _⟩
  · have O1 := hid oS
    have O2 := hid oW
    have O3 := hid hB
    have hgt := htop g rfl
    have HT0 := hid (And.intro hlg hgt)
    clear oS oW hB htop hlg hgt
    go_enter Tryd.func52, Tryd.ntmps52
    go_wp2
    go_loopw [1, 5] (fun kk i wr => ∃ (j : Nat) (q : Int), j ≤ n ∧ i = .int .i64 j ∧ kk = .int .i64 q ∧ 0 ≤ q ∧ q ≤ 1000000000 ∧ Hid (q = k + tw (ws.take j)) ∧ Hid (wr.ownsRow lo 40 2 (.slice (some ⟨g, 0, none⟩) n cap) n (cellsW (mkW k (ws.take j) ++ ws.drop j) ys)) ∧ Hid (wr.ownsRow lo 22 s1 vS n1 cs) ∧ Hid (Bands wr lo hi (xs ++ ys) (ss ++ (mkW k (ws.take j) ++ ws.drop j).map (·.2))) ∧ Hid (Within lo hi w wr)) (fun _ i _ => n - (intOf i).toNat)
    case atStart => exact ⟨0, k, Nat.zero_le _, rfl, rfl, hk0, by omega, hid (by simp [tw, totW, tot]), hid (by simpa [mkW] using O2.out), O1, hid (by simpa [mkW] using O3.out), hid (Within.refl _ _ _)⟩
    case round =>
      obtain ⟨j, q, hj, rfl, rfl, hq0, hq1, HQ, hW, hS, hB, hG⟩ := hrel
      by_cases hlt : j < n
      · have hlt' : (j : Int) < (n : Int) := by omega
        have hj0 : (0 : Int) ≤ (j : Int) := by omega
        have hlW : (mkW k (ws.take j) ++ ws.drop j).length = n := by rw [List.length_append, mkW_length, List.length_take, List.length_drop]; omega
        obtain ⟨hca, hc⟩ := cellW_at hlW hy hW.out hlt
        have ho := hB.out.own (xs.length + j)
        rw [getD_right xs ys j nilS, hx, getD_right ss _ j [], map2_getD, mkdropW_at k ws j (by omega)] at ho
        have HT := hid (tw_step ws j (by omega))
        have HU := hid (tw_take ws (j + 1))
        have HSt := hid (set_mkW k ws j (by omega))
        have HSm := hid (mkdropW_at k ws j (by omega))
        generalize mkW k (ws.take j) ++ ws.drop j = wj at *
        generalize ws.getD j w0 = p at *
        obtain ⟨A, zs⟩ := p
        simp only at ho HT HSt
        obtain ⟨m, hm'⟩ : ∃ m, zs.length = m := ⟨_, rfl⟩
        rw [hm'] at ho HT HSt
        clear hm'
        have hfr : wr.frozen? ⟨g, j * 2, none⟩ = false := hW.out.frozenAt (j * 2)
        have R := hW.out.stored (j * 2) (.int .i64 q)
        rw [cellsW_set1 wj ys j q (marks (q + 1) m) (by omega) (by omega)] at R
        have HO' := hid ho
        have hBs := hB.out.beside R.2 (fun i => owns_ne (hB.out.own i) hW.out (by decide))
        have hSs := hS.out.kept R.2 (owns_ne hS.out hW.out (by decide))
        have hos := ho.kept R.2 (owns_ne ho hW.out (by decide))
        have hGs := hG.out.trans (Within.setCell wr (p := ⟨g, j * 2, none⟩) HT0.out (.int .i64 q))
        rcases ho.2 with ⟨hv, hm⟩ | ⟨g', cap', cur', hv, hrest⟩
        all_goals
          have HO := hid hos
          have HR := hid R.1
          have HBs := hid hBs
          have HSs := hid hSs
          have HGs := hid hGs
          rw [hv] at HO hc
          have HV := hid hv
          clear hv ho HO' R hBs hSs hos hGs hB hS hW hG
          first | clear hm | clear hrest
          go_wp2_with fail
          refine (markByteS_any (q + 1) (by have := HT.out; have := HU.out; omega) (by omega) (by have := HT.out; have := HU.out; have := HQ.out; omega) HO.out).mono ?_
          rintro e w1 ⟨rfl, o1, g1⟩
          have hp := HBs.out.put (i := xs.length + j) (z := marks (q + 1) m) (by rw [List.length_append, List.length_map]; omega) (by rw [getD_right xs ys j nilS, HV.out]; exact g1) (by rw [getD_right xs ys j nilS, HV.out, marks_length]; exact o1) (marks_bd (q + 1) m)
          rw [hx, List.set_append_right _ _ (by omega), show ss.length + j - ss.length = j by omega, ← List.map_set (f := fun x : Int × List Int => x.2) (l := wj) (a := (q, marks (q + 1) m))] at hp
          have N1 := HR.out.kept g1 (owns_ne HR.out HO.out (by decide))
          have hSt := HSt.out
          rw [← HQ.out] at hSt
          rw [hSt] at hp N1
          have N1' := hid N1
          have N2 := hid (HSs.out.kept g1 (owns_ne HSs.out HO.out (by decide)))
          have N3 := hid hp
          have N4 := hid (HGs.out.trans (Within.grown g1 (fun k' hk' => by have := HBs.out.inr (xs.length + j); rw [getD_right xs ys j nilS, HV.out] at this; exact this k' hk')))
          clear o1 g1 hp N1 hSt
          go_wp2_with fail
          go_roundw
          case rel => exact ⟨j + 1, q + 1 + m, by omega, by go_num, rfl, by omega, by have := HT.out; have := HU.out; have := HQ.out; omega, hid (by have := HT.out; have := HQ.out; omega), N1', N2, N3, N4⟩
          case measure => simp [intOf]; omega
      · have hlt' : ¬ (j : Int) < (n : Int) := by omega
        go_wp2
        go_ret
        have hQ := HQ.out
        have h1 := hW.out
        have h3 := hB.out
        rw [List.take_of_length_le (by omega)] at hQ h1 h3
        rw [List.drop_eq_nil_of_le (by omega), List.append_nil] at h1 h3
        exact ⟨by rw [hQ]; rfl, h1, hS.out, h3, hG.out⟩

set_option maxRecDepth 100000 in
set_option maxHeartbeats 1600000 in
theorem markDisk {lo hi : Nat} {aS aW : Option Addr} {nS nW : Nat} (cS cW : Nat) {ss : List (List Int)} {ws : List (Int × List Int)} (F : Int) (D : Bool) {w : World} (k : Int) (h : OwnD w lo hi (.slice aS nS cS) (.slice aW nW cW) ss ws) (hh : hi ≤ w.heap.size) (lS : ss.length = nS) (lW : ws.length = nW) (hS : nS ≤ 2097152) (hW : nW ≤ 2097152)
    (tS : tot ss ≤ 2097152) (tW : tw ws ≤ 2097152) (hk0 : 0 ≤ k) (hk1 : k ≤ 400000000) :
    Calls Tryd.prog 25 #[.agg #[.slice aS nS cS, .slice aW nW cW, .int .i64 F, .bool D], .int .i64 k] w fun e w' => e = .returned (.int .i64 (k + tot ss + tw ws)) ∧ OwnD w' lo hi (.slice aS nS cS) (.slice aW nW cW) (mkS k ss) (mkW (k + tot ss) ws) ∧ Within lo hi w w' := by
  have hA := Below.alloc1 w (.cells #[.slice aS nS cS, .slice aW nW cW, .int .i64 F, .bool D] 27)
  have X0 := heap_alloc_new w (.cells #[.slice aS nS cS, .slice aW nW cW, .int .i64 F, .bool D] 27)
  have z := alloc_size w (.cells #[.slice aS nS cS, .slice aW nW cW, .int .i64 F, .bool D] 27)
  have h1 := h.below hA hh
  have G0 := Within.of_below (lo := lo) (hi := hi) hA (Nat.le_refl _)
  obtain ⟨xs, ys, hx, hy, hB, oS, oW⟩ := h1.own
  have tops := hid (And.intro h1.topS h1.topW)
  clear h h1 hA
  go_enter Tryd.func25, Tryd.ntmps25
  go_wp2_with fail
  generalize w.alloc (.cells #[.slice aS nS cS, .slice aW nW cW, .int .i64 F, .bool D] 27) = W at *
  rw [lS] at oS
  rw [lW] at oW
  refine (markByteSS k (by decide) lS (by omega) hS tS (by omega) (by omega) oS oW hB).mono ?_
  rintro e W1 ⟨rfl, oS1, oW1, hB1, G1⟩
  have c1 : W1.cell? ⟨w.heap.size, 1, none⟩ = some (.slice aW nW cW) := by
    rw [cell_of_row _ _ _ _ _ _ ((G1.block _ (by omega) (.inr hh)).trans X0)]; rfl
  have HP := hid (And.intro oS1 (And.intro oW1 (And.intro hB1 (G0.trans G1))))
  have hq0 : 0 ≤ k + (tot ss : Int) := by omega
  have hq1 : k + (tot ss : Int) ≤ 500000000 := by omega
  clear oS1 oW1 hB1 G1 G0 X0 oS oW hB z
  go_wp2_with fail
  obtain ⟨oS1, oW1, hB1, G1⟩ := HP.out
  refine (markWriteS (ss := mkS k ss) (xs := xs) (k + (tot ss : Int)) lW (by rw [mkS_length]; exact hx) (by omega) hW tW (by omega) (by omega) oW1 oS1 hB1 tops.out.2).mono ?_
  rintro e W2 ⟨rfl, oW2, oS2, hB2, G2⟩
  have HP2 := hid (show OwnD W2 lo hi (.slice aS nS cS) (.slice aW nW cW) (mkS k ss) (mkW (k + tot ss) ws) from ⟨⟨xs, ys, by rw [mkS_length]; exact hx, by rw [mkW_length]; exact hy, hB2, by rw [mkS_length, lS]; exact oS2, by rw [mkW_length, lW]; exact oW2⟩, tops.out.1, tops.out.2⟩)
  have HG := hid (G1.trans G2)
  clear oW2 oS2 hB2 G2 oS1 oW1 hB1 G1 HP c1
  go_wp2_with fail
  go_ret
  exact ⟨rfl, HP2.out, HG.out⟩

set_option maxRecDepth 100000 in
set_option maxHeartbeats 1600000 in
theorem heldByteSS {ad : Option Addr} {n : Nat} (cap : Nat) {ss : List (List Int)} {w : World} (k : Int) (h : ReadsS w ad (mkS k ss)) (hl : ss.length = n) (hn : n ≤ 2097152) (ht : tot ss ≤ 2097152) (hk0 : 0 ≤ k) (hk1 : k ≤ 500000000) :
    Calls Tryd.prog 53 #[.slice ad n cap, .int .i64 k] w fun e w' => e = .returned (.int .i64 (k + tot ss)) ∧ w' = w := by
  go_enter Tryd.func53, Tryd.ntmps53
  go_wp2
  go_loopw [1, 5] (fun kk i wr => ∃ (j : Nat) (q : Int), j ≤ n ∧ i = .int .i64 j ∧ kk = .int .i64 q ∧ 0 ≤ q ∧ q ≤ 1000000000 ∧ Hid (q = k + tot (ss.take j)) ∧ wr = w) (fun _ i _ => n - (intOf i).toNat)
  case atStart => exact ⟨0, k, Nat.zero_le _, rfl, rfl, hk0, by omega, hid (by simp [tot]), rfl⟩
  case round =>
    obtain ⟨j, q, hj, rfl, rfl, hq0, hq1, HQ, rfl⟩ := hrel
    by_cases hlt : j < n
    · have hlt' : (j : Int) < (n : Int) := by omega
      have hj0 : (0 : Int) ≤ (j : Int) := by omega
      have hlm := mkS_length k ss
      rcases h.cells with h0 | ⟨b, off, rfl, hc⟩
      · omega
      obtain ⟨v, hcx, a, c, rfl, hr0, _, _⟩ := hc j (by omega)
      rw [mkS_at, ← HQ.out, marks_length] at hcx hr0
      have HT := hid (tot_step ss j (by omega))
      have HU := hid (tot_take ss (j + 1))
      generalize (ss.getD j []).length = m at *
      have HR := hid hr0
      have hq2 : ¬ (q + (m : Int)) < 0 := by omega
      clear hc hr0 hlm
      go_wp2_with fail
      refine (heldByteS_any c q HR.out (by have := HT.out; have := HU.out; omega) (by omega) (by omega)).mono ?_
      rintro e w1 ⟨rfl, rfl⟩
      go_wp2_with fail
      go_roundw
      case rel => exact ⟨j + 1, q + m, by omega, by go_num, rfl, by omega, by have := HT.out; have := HU.out; have := HQ.out; omega, hid (by have := HT.out; have := HQ.out; omega), by first | trivial | rfl⟩
      case measure => simp [intOf]; omega
    · have hlt' : ¬ (j : Int) < (n : Int) := by omega
      go_wp2
      go_ret
      have hQ := HQ.out
      rw [List.take_of_length_le (by omega)] at hQ
      exact ⟨by rw [hQ]; rfl, rfl⟩

set_option maxRecDepth 100000 in
set_option maxHeartbeats 1600000 in
theorem heldWriteS {ad : Option Addr} {n : Nat} (cap : Nat) {ws : List (Int × List Int)} {w : World} (k : Int) (h : ReadsW w ad (mkW k ws)) (hl : ws.length = n) (hn : n ≤ 2097152) (ht : tw ws ≤ 2097152) (hk0 : 0 ≤ k) (hk1 : k ≤ 500000000) :
    Calls Tryd.prog 54 #[.slice ad n cap, .int .i64 k] w fun e w' => e = .returned (.int .i64 (k + tw ws)) ∧ w' = w := by
  go_enter Tryd.func54, Tryd.ntmps54
  go_wp2
  go_loopw [1, 5] (fun kk i wr => ∃ (j : Nat) (q : Int), j ≤ n ∧ i = .int .i64 j ∧ kk = .int .i64 q ∧ 0 ≤ q ∧ q ≤ 600000000 ∧ Hid (q = k + tw (ws.take j)) ∧ wr = w) (fun _ i _ => n - (intOf i).toNat)
  case atStart => exact ⟨0, k, Nat.zero_le _, rfl, rfl, hk0, by omega, hid (by simp [tw, totW, tot]), rfl⟩
  case round =>
    obtain ⟨j, q, hj, rfl, rfl, hq0, hq1, HQ, rfl⟩ := hrel
    by_cases hlt : j < n
    · have hlt' : (j : Int) < (n : Int) := by omega
      have hj0 : (0 : Int) ≤ (j : Int) := by omega
      have hlm := mkW_length k ws
      rcases h.cells with h0 | ⟨b, off, rfl, hc⟩
      · omega
      obtain ⟨hca, v, hcx, a, c, rfl, hr0, _, _⟩ := hc j (by omega)
      rw [mkW_at k ws j (by omega), ← HQ.out] at hca hcx hr0
      simp only [marks_length] at hca hcx hr0
      have HT := hid (tw_step ws j (by omega))
      have HU := hid (tw_take ws (j + 1))
      generalize (ws.getD j w0).2.length = m at *
      have HR := hid hr0
      have hq2 : ¬ (q + 1 + (m : Int)) < 0 := by omega
      have hq3 : (q != q) = false := by simp
      clear hc hr0 hlm
      go_wp2_with fail
      refine (heldByteS_any c (q + 1) HR.out (by have := HT.out; have := HU.out; omega) (by omega) (by omega)).mono ?_
      rintro e w1 ⟨rfl, rfl⟩
      go_wp2_with fail
      go_roundw
      case rel => exact ⟨j + 1, q + 1 + m, by omega, by go_num, rfl, by omega, by have := HT.out; have := HU.out; have := HQ.out; omega, hid (by have := HT.out; have := HQ.out; omega), by first | trivial | rfl⟩
      case measure => simp [intOf]; omega
    · have hlt' : ¬ (j : Int) < (n : Int) := by omega
      go_wp2
      go_ret
      have hQ := HQ.out
      rw [List.take_of_length_le (by omega)] at hQ
      exact ⟨by rw [hQ]; rfl, rfl⟩

set_option maxRecDepth 100000 in
set_option maxHeartbeats 1600000 in
theorem heldDisk {aS aW : Option Addr} {nS nW : Nat} (cS cW : Nat) {ss : List (List Int)} {ws : List (Int × List Int)} (F : Int) (D : Bool) {w : World} (k : Int) (h : ReadsD w aS aW (mkS k ss) (mkW (k + tot ss) ws)) (lS : ss.length = nS) (lW : ws.length = nW) (hS : nS ≤ 2097152) (hW : nW ≤ 2097152)
    (tS : tot ss ≤ 2097152) (tW : tw ws ≤ 2097152) (hk0 : 0 ≤ k) (hk1 : k ≤ 400000000) :
    Calls Tryd.prog 27 #[.agg #[.slice aS nS cS, .slice aW nW cW, .int .i64 F, .bool D], .int .i64 k] w fun e w' => e = .returned (.int .i64 (k + tot ss + tw ws)) ∧ Below w.heap.size w w' := by
  have hA := Below.alloc1 w (.cells #[.slice aS nS cS, .slice aW nW cW, .int .i64 F, .bool D] 27)
  have h1 := h.below hA (Nat.le_refl _)
  have H1 := hid h1.s
  have H2 := hid h1.w
  have HA := hid hA
  have hq0 : 0 ≤ k + (tot ss : Int) := by omega
  have hq1 : k + (tot ss : Int) ≤ 500000000 := by omega
  have hq2 : ¬ k + (tot ss : Int) < 0 := by omega
  have hq3 : ¬ k + (tot ss : Int) + (tw ws : Int) < 0 := by omega
  clear h h1 hA
  go_enter Tryd.func27, Tryd.ntmps27
  go_wp2_with fail
  refine (heldByteSS cS k H1.out lS hS tS (by omega) (by omega)).mono ?_
  rintro e w1 ⟨rfl, rfl⟩
  go_wp2_with fail
  refine (heldWriteS cW (k + (tot ss : Int)) H2.out lW hW tW (by omega) (by omega)).mono ?_
  rintro e w2 ⟨rfl, rfl⟩
  go_wp2_with fail
  go_ret
  exact ⟨rfl, HA.out⟩
end Go.Proofs.YtnnnehjlegjejaaDoor
