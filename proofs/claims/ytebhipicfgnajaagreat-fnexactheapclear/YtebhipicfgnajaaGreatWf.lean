/- The contract of the library's slices.Backward over slots, and of the program's withoutFreeEnd. Conditions: lists of at most 2^20. -/
import Derived.RangeFuncNested
import Derived.RangeFuncBound
import Derived.RangeFuncCalls
import Derived.RangeFuncLeaves
import Derived.RangeFuncBox
import Derived.Shelf.Abstract
import Derived.WalkKit
import Derived.OwnWalkIn
import Derived.TacticsInMore
import Derived.LoopNIn
import Derived.LoopIn
import Derived.Test.YtebhipicfgnajaaGreatPv
import Derived.Test.YtebhipicfgnajaaGreatLv
namespace Go.Proofs.YtebhipicfgnajaaGreat
open Go.RowKit Go.Shelf
attribute [local go_sem] Oper.semAt_some

/-- What has come when k rounds are over. -/
def dn (n k : Nat) : List Nat := (List.range k).map fun j => n - 1 - j
theorem dn_succ (n k : Nat) : dn n (k + 1) = dn n k ++ [n - 1 - k] := by simp [dn, List.range_succ]
theorem dn_length (n k : Nat) : (dn n k).length = k := by simp [dn]

def enB (n : Nat) (da : Nat → Option Addr) (dl dc : Nat → Nat) (i : Nat) : Array Value := #[.int .i64 ((min i (n - 1) : Nat) : Int), .slice (da (min i (n - 1))) (dl (min i (n - 1))) (dc (min i (n - 1)))]

set_option maxRecDepth 100000 in
set_option maxHeartbeats 2000000 in
theorem back1 (F : Fence) (n : Nat) (h9 : F.fn 196) (hro : F.round = none) (hn : 1 ≤ n) (l Bs n₀ : Nat) (aW : Option Addr) (nW cW : Nat) (hnW : nW ≤ 1048576) (da : Nat → Option Addr) (dl dc : Nat → Nat) (J Jx : List Nat → World → Prop)
    (hY : ∀ pre x W, J pre W → pre.length < nW → YieldAt F (n - 1) Tryz.prog l (enB nW da dl dc x) W fun e W' =>
      (e = .returned (.bool true) ∧ J (pre ++ [x]) W' ∧ Below n₀ W W') ∨ (e = .returned (.bool false) ∧ Jx (pre ++ [x]) W'))
    (W : World) (hBs : W.cell? ⟨Bs, 0, none⟩ = some (.slice aW nW cW)) (hBn : Bs < n₀) (hc : nW = 0 ∨ ∃ b off, aW = some ⟨b, off, none⟩ ∧ b < n₀ ∧ ∀ j, j < nW → W.cell? ⟨b, off + j, none⟩ = some (.slice (da j) (dl j) (dc j))) (h0 : J [] W) :
    CallsIn F n Tryz.prog 196 #[.func (.yield l) #[] #[], .pointer (some ⟨Bs, 0, none⟩)] W fun e W' => (∃ v, e = .returned v) ∧
      ((∃ ys, ys = dn nW nW ∧ J ys W') ∨ (∃ pre, (∃ k, k ≤ nW ∧ pre = dn nW k) ∧ Jx pre W')) := by
  refine callsIn_of_wp Tryz.func196 rfl h9 ?_ hro
  simp only [Tryz.ntmps196, List.size_toArray, List.length_cons, List.length_nil, Nat.reduceAdd, Nat.reduceSub, Array.replicate_succ, Array.replicate_zero, List.push_toArray, List.append_toArray, List.nil_append, List.cons_append]
  gi_wp2
  gi_loopw [3] (fun i wr => ∃ k : Nat, k ≤ nW ∧ i = .int .i64 ((nW : Int) - 1 - k) ∧ J (dn nW k) wr ∧ Below n₀ W wr) (fun i _ => (intOf i + 1).toNat)
  case atStart => exact ⟨0, Nat.zero_le _, by simp, h0, Below.refl _ _⟩
  case round =>
    obtain ⟨k, hk, rfl, hJs, hnx⟩ := hrel
    have hbs := (hnx.cell (p := ⟨Bs, 0, none⟩) hBn).trans hBs
    by_cases hlt : k < nW
    · obtain ⟨q, hq⟩ : ∃ q, nW - 1 - k = q := ⟨_, rfl⟩
      have hq1 : (nW : Int) - 1 - k = (q : Int) := by omega
      have hq0 : (0 : Int) ≤ (q : Int) := by omega
      have hqn : (q : Int) < (nW : Int) := by omega
      rcases hc with h00 | ⟨b, off, rfl, hb, hcc⟩
      · omega
      have hcx := (hnx.cell (p := ⟨b, off + q, none⟩) hb).trans (hcc q (by omega))
      obtain ⟨fn, tmps, assign, body, hy, hR⟩ := hY _ q wr hJs (by rw [dn_length]; exact hlt)
      unfold enB at hy
      rw [show min q (nW - 1) = q by omega] at hy
      rw [hq1]
      have HQ := hid hq
      have HQ1 := hid hq1
      clear hq hq1
      gi_wp2
      refine hR.mono ?_
      rintro e W3 (⟨rfl, hJ3, hk3⟩ | ⟨rfl, hJx3⟩)
      · gi_wp2
        go_roundw
        case rel => exact ⟨k + 1, by omega, by have := HQ1.out; simp; omega, by rw [dn_succ, HQ.out]; exact hJ3, hnx.trans hk3⟩
        case measure => simp [intOf]
      · gi_wp2
        refine bodyPost_ret (results_none rfl _ _ _) rfl ?_
        exact ⟨⟨_, rfl⟩, .inr ⟨_, ⟨k + 1, by omega, by rw [dn_succ, HQ.out]⟩, hJx3⟩⟩
    · obtain rfl : k = nW := by omega
      have hneg : ¬ (0 : Int) ≤ (k : Int) - 1 - k := by omega
      gi_wp2
      go_end0
      exact ⟨⟨_, rfl⟩, .inl hJs⟩

set_option maxHeartbeats 1000000 in
theorem back_in (F : Fence) (n : Nat) (h5 : F.fn 191) (hro : F.round = none) (a : Option Addr) (len cap : Nat) (w : World) :
    CallsIn F n Tryz.prog 191 #[.slice a len cap] w fun e w' => e = .returned (.func (.func 196) #[] #[.pointer (some ⟨w.heap.size, 0, none⟩)]) ∧ w' = w.alloc (.cells #[.slice a len cap] 95) := by
  refine callsIn_of_wp Tryz.func191 rfl h5 ?_ hro
  simp only [Tryz.ntmps191, List.size_toArray, List.length_cons, List.length_nil, Nat.reduceAdd, Nat.reduceSub, Array.replicate_succ, Array.replicate_zero, List.push_toArray, List.append_toArray, List.nil_append, List.cons_append]
  gi_wp2
  go_ret
  exact ⟨rfl, rfl⟩

/-- The slots, by their places. -/
structure ByS (W : World) (n₀ : Nat) (aW : Option Addr) (nW : Nat) (da : Nat → Option Addr) (dl dc : Nat → Nat) : Prop where
  c : nW = 0 ∨ ∃ b off, aW = some ⟨b, off, none⟩ ∧ b < n₀ ∧ ∀ j, j < nW → W.cell? ⟨b, off + j, none⟩ = some (.slice (da j) (dl j) (dc j))
theorem ByS.below {W W' : World} {n₀ : Nat} {aW : Option Addr} {nW : Nat} {da : Nat → Option Addr} {dl dc : Nat → Nat} (h : ByS W n₀ aW nW da dl dc) (b : Below n₀ W W') : ByS W' n₀ aW nW da dl dc := by
  refine ⟨h.c.imp id ?_⟩
  rintro ⟨bb, off, e, hb, hc⟩
  exact ⟨bb, off, e, hb, fun j hj => (b.cell (p := ⟨bb, off + j, none⟩) hb).trans (hc j hj)⟩

theorem back_stops (F : Fence) (n : Nat) (h9 : F.fn 196) (hro : F.round = none) (hn : 1 ≤ n) (Bs n₀ : Nat) (aW : Option Addr) (nW cW : Nat) (hnW : nW ≤ 1048576) (da : Nat → Option Addr) (dl dc : Nat → Nat) (w : World) (hBs : Bs < w.heap.size) (hBn : Bs < n₀) (hn₀ : n₀ ≤ w.heap.size)
    (hc : w.cell? ⟨Bs, 0, none⟩ = some (.slice aW nW cW)) (hI : ByS w n₀ aW nW da dl dc) :
    SeqStopsK F n Tryz.prog 196 #[.pointer (some ⟨Bs, 0, none⟩)] (enB nW da dl dc) (Below n₀) (fun ys => ys = dn nW nW) (fun pre => ∃ k, k ≤ nW ∧ pre = dn nW k) nW w := fun l J Jx W hW _ _ hY h0 => by
  have hc' := (hW.cell (p := ⟨Bs, 0, none⟩) hBs).trans hc
  exact back1 F n h9 hro hn l Bs n₀ aW nW cW hnW da dl dc J Jx hY W hc' hBn (hI.below (hW.mono hn₀)).c h0

set_option maxRecDepth 100000 in
set_option maxHeartbeats 4000000 in
theorem without_walk {aW : Option Addr} {nW : Nat} (cW : Nat) (hnW : nW ≤ 1048576) (da : Nat → Option Addr) (dl dc : Nat → Nat) {w : World} (hI : ByS w w.heap.size aW nW da dl dc) (hcap : nW ≤ cW) :
    Calls Tryz.prog 179 #[.slice aW nW cW] w fun e W' =>
      ((e = .returned (.slice none 0 0) ∧ ∀ j, j < nW → dl j = 0) ∨ (∃ k : Nat, k < nW ∧ e = .returned (.slice aW (k + 1) cW) ∧ dl k ≠ 0 ∧ ∀ j, k < j → j < nW → dl j = 0)) ∧ Below w.heap.size w W' := by
  refine (callsIn_wide (n := 5)).1 ?_
  refine callsIn_of_wp_marks Tryz.func179 rfl trivial ?_ rfl
  simp only [Tryz.ntmps179, List.size_toArray, List.length_cons, List.length_nil, Nat.reduceAdd, Nat.reduceSub, Array.replicate_succ, Array.replicate_zero, List.push_toArray, List.append_toArray, List.nil_append, List.cons_append]
  gi_wp2_with (refine ⟨trivial, ?_⟩; gi_at_call 191; refine (back_in Fence.wide (5 - 1) trivial rfl _ _ _ _).mono ?_; rintro e w' ⟨rfl, rfl⟩)
  have bA := Boxed.new w 95 (.slice aW nW cW)
  have bR := Boxed.new (w.alloc (.cells #[.slice aW nW cW] 95)) 95 (.slice none 0 0)
  have bN := Boxed.new ((w.alloc (.cells #[.slice aW nW cW] 95)).alloc (.cells #[.slice none 0 0] 95)) 95 (.slice aW nW cW)
  simp only [World.size_alloc] at bR bN
  have hB0 : Below w.heap.size w (((w.alloc (.cells #[.slice aW nW cW] 95)).alloc (.cells #[.slice none 0 0] 95)).alloc (.cells #[.slice aW nW cW] 95)) := (((Below.refl _ w).alloc (Nat.le_refl _) _).alloc (by simp) _).alloc (by simp; omega) _
  refine wpIn_rangeFunc_ownH (F := Fence.wide) rfl (by omega) (gf := 196) (lb := #[.pointer (some ⟨w.heap.size + 1 + 1, 0, none⟩)]) rfl trivial (enters_of Tryz.func196 (by kernel_rfl) rfl)
    (back_stops Fence.wide (5 - 1) trivial rfl (by omega) (w.heap.size + 1 + 1) (w.heap.size + 3) aW nW cW hnW da dl dc _ (by simp) (by omega) (by simp) bN.cell ⟨(hI.below hB0).c.imp id (fun ⟨b, off, e, hb, hc⟩ => ⟨b, off, e, by omega, hc⟩)⟩) belowK_t (belowK_b (by simp)) (Below.refl _ _) (fun _ => rfl)
    (fun pre W => ((∀ y ∈ pre, dl (min y (nW - 1)) = 0) ∧ W.cell? ⟨w.heap.size, 0, none⟩ = some (.slice aW nW cW) ∧ W.cell? ⟨w.heap.size + 1, 0, none⟩ = some (.slice none 0 0) ∧ W.frozen? ⟨w.heap.size + 1, 0, none⟩ = false ∧ W.cell? ⟨w.heap.size + 1 + 1, 0, none⟩ = some (.slice aW nW cW)) ∧ Below w.heap.size w W)
    (fun c pre W => (c = .ret ∧ ∃ ini last, pre = ini ++ [last] ∧ (∀ y ∈ ini, dl (min y (nW - 1)) = 0) ∧ dl (min last (nW - 1)) ≠ 0 ∧ W.cell? ⟨w.heap.size + 1, 0, none⟩ = some (.slice aW (min last (nW - 1) + 1) cW)) ∧ Below w.heap.size w W)
    (OwnFrom.and (Own.from (fun s A B row hs hg hr => ⟨hs.1, cell_kept hs.2.1 hg hr, cell_kept hs.2.2.1 hg hr, (frozen_kept hs.2.2.1 hg hr).trans hs.2.2.2.1, cell_kept hs.2.2.2.2 hg hr⟩) _) (ownFrom_below (Nat.le_refl _) (by simp; omega)))
    (fun c => OwnFrom.and (Own.from (fun s A B row hs hg hr => by obtain ⟨hc, ini, last, e1, e2, e3, e4⟩ := hs; exact ⟨hc, ini, last, e1, e2, e3, cell_kept e4 hg hr⟩) _) (ownFrom_below (Nat.le_refl _) (by simp; omega)))
    ⟨⟨by simp, ((bA.alloc _).alloc _).cell, (bR.alloc _).cell, (bR.alloc _).frozen, bN.cell⟩, hB0⟩
    (fun x a' W => a' = { tmps := #[.slice aW nW cW, .pointer (some ⟨w.heap.size, 0, none⟩), .pointer (some ⟨w.heap.size + 1, 0, none⟩), .int .i64 ((min x (nW - 1) : Nat) : Int), .slice (da (min x (nW - 1))) (dl (min x (nW - 1))) (dc (min x (nW - 1))), .slice aW nW cW, .func (.func 196) #[] #[.pointer (some ⟨w.heap.size + 1 + 1, 0, none⟩)], .int .i64 ((min x (nW - 1) : Nat) : Int), .slice (da (min x (nW - 1))) (dl (min x (nW - 1))) (dc (min x (nW - 1))), undef, undef, undef, undef, undef, undef, undef], defers := [] })
    (fun x a' => Own.from (fun s A B row hs hg hr => hs) _)
    ?assign ?body ?done ?stop
  case assign =>
    rintro l pre x W K ⟨⟨hp, hca, hcr, hfr, hcn⟩, hB⟩ hK
    unfold enB
    generalize min x (nW - 1) = y at *
    gi_wp2
    exact hK _ _ (KeepsFrom.refl _ _) (Below.refl _ _) ⟨⟨hp, hca, hcr, hfr, hcn⟩, hB⟩ rfl
  case body =>
    rintro l pre x a' W hl hlr ⟨⟨hp, hca, hcr, hfr, hcn⟩, hB⟩ rfl hlt
    obtain ⟨y, hy⟩ : ∃ y, min x (nW - 1) = y := ⟨_, rfl⟩
    have hyn : y < nW := by omega
    have hyn' : (y : Int) < (nW : Int) := by omega
    have hyc : y + 1 ≤ cW := by omega
    have hyc' : (y : Int) + 1 ≤ (cW : Int) := by omega
    have hy0 : (0 : Int) ≤ (y : Int) := by omega
    have HY := hid hy
    rw [hy]
    clear hy
    obtain ⟨z, hz⟩ : ∃ z, dl y = z := ⟨_, rfl⟩
    rw [hz]
    have HZ := hid hz
    clear hz
    by_cases hz0 : z = 0
    · subst hz0
      gi_wp2_with (refine ⟨trivial, ?_⟩; gi_at_call 132; refine (CallsIn.inRound l ((callsIn_wide (n := _)).2 (impl_isFree _ _ _ _))).mono ?_; rintro e w' ⟨rfl, rfl⟩)
      exact ⟨KeepsFrom.refl _ _, Below.refl _ _, ⟨fun y hy => (List.mem_append.1 hy).elim (hp y) (fun e => by simp at e; subst e; rw [HY.out]; exact HZ.out), hca, hcr, hfr, hcn⟩, hB⟩
    · have q0 : decide (z = 0) = false := decide_eq_false hz0
      have HZ0 := hid hz0
      clear hz0
      rcases hI.c with h0 | ⟨b, off, rfl, _, _⟩
      · omega
      gi_wp2_with (refine ⟨trivial, ?_⟩; gi_at_call 132; refine (CallsIn.inRound l ((callsIn_wide (n := _)).2 (impl_isFree _ _ _ _))).mono ?_; rintro e w' ⟨rfl, rfl⟩)
      exact ⟨(KeepsOthers.setCell _ _ _).from _, ⟨rfl, pre, x, rfl, hp, by rw [HY.out, HZ.out]; exact HZ0.out, by rw [HY.out]; exact World.cell?_setCell_same' _ _ _ (by rw [hcr]; rfl)⟩, hB.setCell (p := ⟨w.heap.size + 1, 0, none⟩) (by simp) _⟩
  case done =>
    rintro Dd ys W hD rfl ⟨⟨hne, hca, hcr, hfr, hcn⟩, hB⟩ hK
    have HNE := hid hne
    have HKK := hid hK
    have HBB := hid hB
    clear hne hK hB hca hcn
    gi_wp2
    have HK2 : (W.setCell ⟨w.heap.size + 1, 0, none⟩ (.slice none 0 0)).heap[Dd]? = some (.deferred (some [])) := (KeepsOthers.setCell W ⟨w.heap.size + 1, 0, none⟩ (.slice none 0 0)).same Dd _ HKK.out rfl
    refine ⟨by simp, .inl ⟨_, _, rfl, run_takeDeferred HK2, ?_⟩⟩
    have hc5 := cell_kept (W := W.setCell ⟨w.heap.size + 1, 0, none⟩ (.slice none 0 0)) (World.cell?_setCell_same' W ⟨w.heap.size + 1, 0, none⟩ (.slice none 0 0) (by rw [hcr]; rfl)) (grownBy_putObj' _ Dd (.deferred none)) (fun r e => by cases e; exact ⟨_, HK2, rfl⟩)
    refine ⟨.slice none 0 0, ?_, .inl ⟨rfl, fun j hj => ?_⟩, (HBB.out.setCell (p := ⟨w.heap.size + 1, 0, none⟩) (by simp) _).trans (belowK_b (w := w) (Nat.le_refl _) _ Dd _ _ (by simp at hD; omega) HK2 rfl rfl)⟩
    · simp [results, Tryz.f179, go_sem, hc5]
    · have := HNE.out j (by simp only [dn, List.mem_map, List.mem_range]; exact ⟨nW - 1 - j, by omega, by omega⟩)
      rwa [show min j (nW - 1) = j by omega] at this
  case stop =>
    rintro Dd c pre W hD ⟨k, hk, rfl⟩ ⟨⟨rfl, ini, last, e1, e2, e3, hcr⟩, hB⟩ hK
    gi_wp2
    refine ⟨by simp, .inl ⟨_, _, rfl, run_takeDeferred hK, ?_⟩⟩
    have hc5 := cell_kept hcr (grownBy_putObj' _ Dd (.deferred none)) (fun r e => by cases e; exact ⟨_, hK, rfl⟩)
    obtain ⟨k', rfl⟩ : ∃ k', k = k' + 1 := by
      cases k with
      | zero => simp [dn] at e1
      | succ k' => exact ⟨k', rfl⟩
    rw [dn_succ] at e1
    obtain ⟨rfl, e5⟩ := List.append_inj' e1 rfl
    obtain rfl : nW - 1 - k' = last := by simpa using e5
    have e6 : min (nW - 1 - k') (nW - 1) = nW - 1 - k' := by omega
    rw [e6] at e3 hc5
    refine ⟨.slice aW (nW - 1 - k' + 1) cW, ?_, .inr ⟨nW - 1 - k', by omega, rfl, e3, fun j hj hjn => ?_⟩, hB.trans (belowK_b (w := w) (Nat.le_refl _) W Dd _ _ (by simp at hD; omega) hK rfl rfl)⟩
    · simp [results, Tryz.f179, go_sem, hc5]
    · have := e2 j (by simp only [dn, List.mem_map, List.mem_range]; exact ⟨nW - 1 - j, by omega, by omega⟩)
      rwa [show min j (nW - 1) = j by omega] at this

/-- What is left is what trimP leaves. -/
theorem impl_without {a : Option Addr} {n : Nat} (c : Nat) {ts : List (List Int)} {xs : List Value} {lo : Nat} {w : World} (hl : ts.length = n) (hn : n ≤ 1048576) (ho : w.ownsRow lo 22 1 (.slice a n c) n xs) (hb : Bands w lo w.heap.size xs ts) :
    Calls Tryz.prog 179 #[.slice a n c] w fun e w' => ∃ a' c', e = .returned (.slice a' (trimP ts).length c') ∧ OwnP w' lo w.heap.size (.slice a' (trimP ts).length c') (trimP ts) ∧ Below w.heap.size w w' := by
  have hcap : n ≤ c := by
    rcases ho.2 with ⟨e, e0⟩ | ⟨g', cap, cur, e, _, _, h1, _⟩
    · omega
    · obtain ⟨_, _, rfl⟩ := Value.slice.inj e; exact h1
  have hI : ByS w w.heap.size a n (fun j => match xs.getD j nilS with | .slice x _ _ => x | _ => none) (fun j => (ts.getD j []).length) (fun j => match xs.getD j nilS with | .slice _ _ x => x | _ => 0) := by
    refine ⟨?_⟩
    rcases ho.2 with ⟨_, e0⟩ | ⟨g, cap, cur, e, _, hg, _⟩
    · exact .inl e0
    · obtain ⟨rfl, _, rfl⟩ := Value.slice.inj e
      refine .inr ⟨g, 0, rfl, (Array.getElem?_eq_some_iff.1 hg).1, fun j hj => ?_⟩
      rw [Nat.zero_add, cell_getD ho hj]
      obtain ⟨x, y, e, _⟩ := hb.row j
      rw [e]
  refine (without_walk c hn _ _ _ hI hcap).mono ?_
  rintro e w' ⟨h1 | ⟨k, hk, rfl, h2, h3⟩, b⟩
  · obtain ⟨rfl, h1⟩ := h1
    rw [trimP_all (fun j hj => h1 j (by omega))]
    exact ⟨none, 0, rfl, OwnP.nil _ _ _, b⟩
  · rw [trimP_stop (by omega) h2 (fun j h4 h5 => h3 j h4 (by omega))]
    rcases ho.2 with ⟨_, e0⟩ | ⟨g, cap, cur, e, hbg, hg, hnc, hcm, hcs, ht⟩
    · omega
    obtain ⟨rfl, _, rfl⟩ := Value.slice.inj e
    have hxl := ho.1
    have o1 : w.ownsRow lo 22 1 (.slice (some ⟨g, 0, none⟩) (k + 1) c) (k + 1) (xs.take (k + 1)) := by
      refine ⟨by simp; omega, .inr ⟨g, c, cur, rfl, hbg, hg, by omega, hcm, hcs, ?_⟩⟩
      have : (cur.toList.take (n * 1)).take ((k + 1) * 1) = xs.take ((k + 1) * 1) := by rw [ht]
      rw [List.take_take, Nat.min_eq_left (by omega)] at this
      simpa using this
    have b1 : Bands w lo w.heap.size (xs.take (k + 1)) (ts.take (k + 1)) := by
      have := hb
      rw [← List.take_append_drop (k + 1) xs, ← List.take_append_drop (k + 1) ts] at this
      have hl2 := hb.len
      exact this.left (by simp; omega)
    have e7 : (ts.take (k + 1)).length = k + 1 := by simp; omega
    refine ⟨_, c, by rw [e7], ?_, b⟩
    have : OwnP w lo w.heap.size (.slice (some ⟨g, 0, none⟩) (ts.take (k + 1)).length c) (ts.take (k + 1)) := ⟨⟨_, by rw [e7]; exact o1, b1⟩, fun q hq => by rw [e7] at hq; exact (o1.lt q hq).2⟩
    exact this.below b (Nat.le_refl _)
end Go.Proofs.YtebhipicfgnajaaGreat
