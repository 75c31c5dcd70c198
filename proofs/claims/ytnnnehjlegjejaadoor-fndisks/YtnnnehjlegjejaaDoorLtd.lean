/- The contract of the library's slices.Backward over writes, and of the program's latest. Conditions: a disk that is DiskOk. -/
import Derived.RangeFuncNested
import Derived.RangeFuncBound
import Derived.RangeFuncCalls
import Derived.RangeFuncLeaves
import Derived.RangeFuncBox
import Derived.Shelf.Abstract
import Derived.WalkKit
import Derived.OwnWalkIn
import Derived.TacticsInMore
import Derived.LoopNIn
import Derived.LoopIn
import Derived.Test.YtnnnehjlegjejaaDoorDfh
namespace Go.Proofs.YtnnnehjlegjejaaDoor
open Go.RowKit Go.Shelf
attribute [local go_sem] Oper.semAt_some

/-- What has come when k rounds are over. -/
def dn (n k : Nat) : List Nat := (List.range k).map fun j => n - 1 - j
theorem dn_succ (n k : Nat) : dn n (k + 1) = dn n k ++ [n - 1 - k] := by simp [dn, List.range_succ]
theorem dn_length (n k : Nat) : (dn n k).length = k := by simp [dn]

def enW (A : Nat → Int) (da : Nat → Option Addr) (dl dc : Nat → Nat) (i : Nat) : Array Value := #[.int .i64 (i : Int), .agg #[.int .i64 (A i), .slice (da i) (dl i) (dc i)]]

set_option maxRecDepth 100000 in
set_option maxHeartbeats 2000000 in
theorem back1 (F : Fence) (n : Nat) (h9 : F.fn 70) (hro : F.round = none) (hn : 1 ≤ n) (l Bs n₀ : Nat) (aW : Option Addr) (nW cW : Nat) (hnW : nW ≤ 600) (A : Nat → Int) (da : Nat → Option Addr) (dl dc : Nat → Nat) (J Jx : List Nat → World → Prop)
    (hY : ∀ pre x W, J pre W → pre.length < nW → YieldAt F (n - 1) Tryd.prog l (enW A da dl dc x) W fun e W' =>
      (e = .returned (.bool true) ∧ J (pre ++ [x]) W' ∧ Below n₀ W W') ∨ (e = .returned (.bool false) ∧ Jx (pre ++ [x]) W'))
    (W : World) (hBs : W.cell? ⟨Bs, 0, none⟩ = some (.slice aW nW cW)) (hBn : Bs < n₀) (hc : nW = 0 ∨ ∃ b off, aW = some ⟨b, off, none⟩ ∧ b < n₀ ∧ ∀ j, j < nW → W.cell? ⟨b, off + j * 2, none⟩ = some (.int .i64 (A j)) ∧ W.cell? ⟨b, off + j * 2 + 1, none⟩ = some (.slice (da j) (dl j) (dc j))) (h0 : J [] W) :
    CallsIn F n Tryd.prog 70 #[.func (.yield l) #[] #[], .pointer (some ⟨Bs, 0, none⟩)] W fun e W' => (∃ v, e = .returned v) ∧
      ((∃ ys, ys = dn nW nW ∧ J ys W') ∨ (∃ pre, (∃ k, k ≤ nW ∧ pre = dn nW k) ∧ Jx pre W')) := by
  refine callsIn_of_wp Tryd.func70 rfl h9 ?_ hro
  simp only [Tryd.ntmps70, List.size_toArray, List.length_cons, List.length_nil, Nat.reduceAdd, Nat.reduceSub, Array.replicate_succ, Array.replicate_zero, List.push_toArray, List.append_toArray, List.nil_append, List.cons_append]
  gi_wp2
  gi_loopw [3] (fun i wr => ∃ k : Nat, k ≤ nW ∧ i = .int .i64 ((nW : Int) - 1 - k) ∧ J (dn nW k) wr ∧ Below n₀ W wr) (fun i _ => (intOf i + 1).toNat)
  case atStart => exact ⟨0, Nat.zero_le _, by simp, h0, Below.refl _ _⟩
  case round =>
    obtain ⟨k, hk, rfl, hJs, hnx⟩ := hrel
    have hbs := (hnx.cell (p := ⟨Bs, 0, none⟩) hBn).trans hBs
    by_cases hlt : k < nW
    · obtain ⟨q, hq⟩ : ∃ q, nW - 1 - k = q := ⟨_, rfl⟩
      have hq1 : (nW : Int) - 1 - k = (q : Int) := by omega
      have hq0 : (0 : Int) ≤ (q : Int) := by omega
      have hqn : (q : Int) < (nW : Int) := by omega
      rcases hc with h00 | ⟨b, off, rfl, hb, hcc⟩
      · omega
      have hca := (hnx.cell (p := ⟨b, off + q * 2, none⟩) hb).trans (hcc q (by omega)).1
      have hcx := (hnx.cell (p := ⟨b, off + q * 2 + 1, none⟩) hb).trans (hcc q (by omega)).2
      obtain ⟨fn, tmps, assign, body, hy, hR⟩ := hY _ q wr hJs (by rw [dn_length]; exact hlt)
      unfold enW at hy
      rw [hq1]
      have HQ := hid hq
      have HQ1 := hid hq1
      clear hq hq1
      gi_wp2
      refine hR.mono ?_
      rintro e W3 (⟨rfl, hJ3, hk3⟩ | ⟨rfl, hJx3⟩)
      · gi_wp2
        go_roundw
        case rel => exact ⟨k + 1, by omega, by have := HQ1.out; simp; omega, by rw [dn_succ, HQ.out]; exact hJ3, hnx.trans hk3⟩
        case measure => simp [intOf]
      · gi_wp2
        refine bodyPost_ret (results_none rfl _ _ _) rfl ?_
        exact ⟨⟨_, rfl⟩, .inr ⟨_, ⟨k + 1, by omega, by rw [dn_succ, HQ.out]⟩, hJx3⟩⟩
    · obtain rfl : k = nW := by omega
      have hneg : ¬ (0 : Int) ≤ (k : Int) - 1 - k := by omega
      gi_wp2
      go_end0
      exact ⟨⟨_, rfl⟩, .inl hJs⟩

set_option maxHeartbeats 1000000 in
theorem back_in (F : Fence) (n : Nat) (h5 : F.fn 61) (hro : F.round = none) (a : Option Addr) (len cap : Nat) (w : World) :
    CallsIn F n Tryd.prog 61 #[.slice a len cap] w fun e w' => e = .returned (.func (.func 70) #[] #[.pointer (some ⟨w.heap.size, 0, none⟩)]) ∧ w' = w.alloc (.cells #[.slice a len cap] 25) := by
  refine callsIn_of_wp Tryd.func61 rfl h5 ?_ hro
  simp only [Tryd.ntmps61, List.size_toArray, List.length_cons, List.length_nil, Nat.reduceAdd, Nat.reduceSub, Array.replicate_succ, Array.replicate_zero, List.push_toArray, List.append_toArray, List.nil_append, List.cons_append]
  gi_wp2
  go_ret
  exact ⟨rfl, rfl⟩

/-- The data of writes, by their places. -/
structure ByI (W : World) (n₀ : Nat) (aW : Option Addr) (nW : Nat) (A : Nat → Int) (da : Nat → Option Addr) (dl dc : Nat → Nat) : Prop where
  c : nW = 0 ∨ ∃ b off, aW = some ⟨b, off, none⟩ ∧ b < n₀ ∧ ∀ j, j < nW → W.cell? ⟨b, off + j * 2, none⟩ = some (.int .i64 (A j)) ∧ W.cell? ⟨b, off + j * 2 + 1, none⟩ = some (.slice (da j) (dl j) (dc j))
theorem ByI.below {W W' : World} {n₀ : Nat} {aW : Option Addr} {nW : Nat} {A : Nat → Int} {da : Nat → Option Addr} {dl dc : Nat → Nat} (h : ByI W n₀ aW nW A da dl dc) (b : Below n₀ W W') : ByI W' n₀ aW nW A da dl dc := by
  refine ⟨h.c.imp id ?_⟩
  rintro ⟨bb, off, e, hb, hc⟩
  exact ⟨bb, off, e, hb, fun j hj => ⟨(b.cell (p := ⟨bb, off + j * 2, none⟩) hb).trans (hc j hj).1, (b.cell (p := ⟨bb, off + j * 2 + 1, none⟩) hb).trans (hc j hj).2⟩⟩

theorem back_stops (F : Fence) (n : Nat) (h9 : F.fn 70) (hro : F.round = none) (hn : 1 ≤ n) (Bs n₀ : Nat) (aW : Option Addr) (nW cW : Nat) (hnW : nW ≤ 600) (A : Nat → Int) (da : Nat → Option Addr) (dl dc : Nat → Nat) (w : World) (hBs : Bs < w.heap.size) (hBn : Bs < n₀) (hn₀ : n₀ ≤ w.heap.size)
    (hc : w.cell? ⟨Bs, 0, none⟩ = some (.slice aW nW cW)) (hI : ByI w n₀ aW nW A da dl dc) :
    SeqStopsK F n Tryd.prog 70 #[.pointer (some ⟨Bs, 0, none⟩)] (enW A da dl dc) (Below n₀) (fun ys => ys = dn nW nW) (fun pre => ∃ k, k ≤ nW ∧ pre = dn nW k) nW w := fun l J Jx W hW _ _ hY h0 => by
  have hc' := (hW.cell (p := ⟨Bs, 0, none⟩) hBs).trans hc
  exact back1 F n h9 hro hn l Bs n₀ aW nW cW hnW A da dl dc J Jx hY W hc' hBn (hI.below (hW.mono hn₀)).c h0

set_option maxRecDepth 100000 in
set_option maxHeartbeats 4000000 in
theorem impl_latest {g : Nat} {aS aW : Option Addr} {nS nW cS cW : Nat} {F : Int} {D : Bool} (at' : Nat) (hat : at' < nS) (hnW : nW ≤ 600) (A : Nat → Int) (da : Nat → Option Addr) (dl dc : Nat → Nat) {w : World} (hbox : BoxD w g aS nS cS aW nW cW F D) (hI : ByI w w.heap.size aW nW A da dl dc)
    {b off : Nat} {sv : Option Addr} {sl sc : Nat} (hS : aS = some ⟨b, off, none⟩) (hs : w.cell? ⟨b, off + at', none⟩ = some (.slice sv sl sc)) :
    Calls Tryd.prog 42 #[.pointer (some ⟨g, 0, none⟩), .int .i64 (at' : Int)] w fun e W' =>
      ((e = .returned (.slice sv sl sc) ∧ ∀ j, j < nW → A j ≠ (at' : Int)) ∨ (∃ k : Nat, k < nW ∧ e = .returned (.slice (da k) (dl k) (dc k)) ∧ A k = (at' : Int) ∧ ∀ j, k < j → j < nW → A j ≠ (at' : Int))) ∧ Below w.heap.size w W' := by
  have hB1 := two w (.cells #[.int .i64 (at' : Int)] 3) (.cells #[.slice none 0 0] 22)
  obtain ⟨_, e1, _, _⟩ := hbox.agree (hB1.block g hbox.lt)
  have HBX := hid hbox
  have HS := hid hs
  clear hbox
  refine (callsIn_wide (n := 5)).1 ?_
  refine callsIn_of_wp_marks Tryd.func42 rfl trivial ?_ rfl
  simp only [Tryd.ntmps42, List.size_toArray, List.length_cons, List.length_nil, Nat.reduceAdd, Nat.reduceSub, Array.replicate_succ, Array.replicate_zero, List.push_toArray, List.append_toArray, List.nil_append, List.cons_append]
  gi_wp2_with (refine ⟨trivial, ?_⟩; gi_at_call 61; refine (back_in Fence.wide (5 - 1) trivial rfl _ _ _ _).mono ?_; rintro e w' ⟨rfl, rfl⟩)
  have bA := (Boxed.new w 3 (.int .i64 (at' : Int)))
  have bR := Boxed.new (w.alloc (.cells #[.int .i64 (at' : Int)] 3)) 22 (.slice none 0 0)
  have bN := Boxed.new ((w.alloc (.cells #[.int .i64 (at' : Int)] 3)).alloc (.cells #[.slice none 0 0] 22)) 25 (.slice aW nW cW)
  simp only [World.size_alloc] at bR bN
  have hB0 : Below w.heap.size w (((w.alloc (.cells #[.int .i64 (at' : Int)] 3)).alloc (.cells #[.slice none 0 0] 22)).alloc (.cells #[.slice aW nW cW] 25)) := (((Below.refl _ w).alloc (Nat.le_refl _) _).alloc (by simp) _).alloc (by simp; omega) _
  refine wpIn_rangeFunc_ownH (F := Fence.wide) rfl (by omega) (gf := 70) (lb := #[.pointer (some ⟨w.heap.size + 1 + 1, 0, none⟩)]) rfl trivial (enters_of Tryd.func70 (by kernel_rfl) rfl)
    (back_stops Fence.wide (5 - 1) trivial rfl (by omega) (w.heap.size + 1 + 1) (w.heap.size + 3) aW nW cW hnW A da dl dc _ (by simp) (by omega) (by simp) bN.cell ⟨(hI.below hB0).c.imp id (fun ⟨b, off, e, hb, hc⟩ => ⟨b, off, e, by omega, hc⟩)⟩) belowK_t (belowK_b (by simp)) (Below.refl _ _) (fun _ => rfl)
    (fun pre W => ((∀ y ∈ pre, A y ≠ (at' : Int)) ∧ W.cell? ⟨w.heap.size, 0, none⟩ = some (.int .i64 (at' : Int)) ∧ W.cell? ⟨w.heap.size + 1, 0, none⟩ = some (.slice none 0 0) ∧ W.frozen? ⟨w.heap.size + 1, 0, none⟩ = false ∧ W.cell? ⟨w.heap.size + 1 + 1, 0, none⟩ = some (.slice aW nW cW)) ∧ Below w.heap.size w W)
    (fun c pre W => (c = .ret ∧ ∃ ini last, pre = ini ++ [last] ∧ (∀ y ∈ ini, A y ≠ (at' : Int)) ∧ A last = (at' : Int) ∧ W.cell? ⟨w.heap.size + 1, 0, none⟩ = some (.slice (da last) (dl last) (dc last))) ∧ Below w.heap.size w W)
    (OwnFrom.and (Own.from (fun s A B row hs hg hr => ⟨hs.1, cell_kept hs.2.1 hg hr, cell_kept hs.2.2.1 hg hr, (frozen_kept hs.2.2.1 hg hr).trans hs.2.2.2.1, cell_kept hs.2.2.2.2 hg hr⟩) _) (ownFrom_below (Nat.le_refl _) (by simp; omega)))
    (fun c => OwnFrom.and (Own.from (fun s A B row hs hg hr => by obtain ⟨hc, ini, last, e1, e2, e3, e4⟩ := hs; exact ⟨hc, ini, last, e1, e2, e3, cell_kept e4 hg hr⟩) _) (ownFrom_below (Nat.le_refl _) (by simp; omega)))
    ⟨⟨by simp, ((bA.alloc _).alloc _).cell, (bR.alloc _).cell, (bR.alloc _).frozen, bN.cell⟩, hB0⟩
    (fun x a' W => ∃ Bx, w.heap.size + 2 < Bx ∧ W.cell? ⟨Bx, 0, none⟩ = some (.int .i64 (A x)) ∧ W.cell? ⟨Bx, 1, none⟩ = some (.slice (da x) (dl x) (dc x)) ∧ a' = { tmps := #[.pointer (some ⟨g, 0, none⟩), .int .i64 (at' : Int), undef, .pointer (some ⟨w.heap.size, 0, none⟩), .pointer (some ⟨w.heap.size + 1, 0, none⟩), undef, .pointer (some ⟨Bx, 0, none⟩), .pointer (some ⟨g, 0, none⟩), .pointer (some ⟨g, 0, none⟩), .pointer (some ⟨g, 1, none⟩), .slice aW nW cW, .func (.func 70) #[] #[.pointer (some ⟨w.heap.size + 1 + 1, 0, none⟩)], .int .i64 (x : Int), .agg #[.int .i64 (A x), .slice (da x) (dl x) (dc x)], undef, undef, undef, undef, undef, undef, undef, undef, undef, undef, undef, undef, undef], defers := [] })
    (fun x a' => Own.from (fun s A B row hs hg hr => by obtain ⟨Bx, h1, h2, h3, h4⟩ := hs; exact ⟨Bx, h1, cell_kept h2 hg hr, cell_kept h3 hg hr, h4⟩) _)
    ?assign ?body ?done ?stop
  case assign =>
    rintro l pre x W K ⟨⟨hp, hca, hcr, hfr, hcn⟩, hB⟩ hK
    unfold enW
    gi_wp2
    have x0 := heap_alloc_new W (.cells #[.int .i64 (A x), .slice (da x) (dl x) (dc x)] 40)
    have hsz : w.heap.size + 1 + 1 < W.heap.size := World.block_lt_of_cell? W _ hcn
    exact hK _ _ ((KeepsOthers.alloc _ _).from _) ((Below.refl _ W).alloc (by omega) _) ⟨⟨hp, cell_old _ hca, cell_old _ hcr, froz_old _ hcr hfr, cell_old _ hcn⟩, hB.alloc hB.size _⟩ ⟨W.heap.size, by omega, by rw [cell_of_row _ _ _ _ _ _ x0]; rfl, by rw [cell_of_row _ _ _ _ _ _ x0]; rfl, rfl⟩
  case body =>
    rintro l pre x a' W hl hlr ⟨⟨hp, hca, hcr, hfr, hcn⟩, hB⟩ ⟨Bx, hBx, hx0, hx1, rfl⟩ hlt
    by_cases hAx : A x = (at' : Int)
    · have q : (A x == (at' : Int)) = true := by simp [hAx]
      have HAx := hid hAx
      clear hAx
      gi_wp2
      exact ⟨(KeepsOthers.setCell _ _ _).from _, ⟨rfl, pre, x, rfl, hp, HAx.out, World.cell?_setCell_same' _ _ _ (by rw [hcr]; rfl)⟩, hB.setCell (p := ⟨w.heap.size + 1, 0, none⟩) (by simp) _⟩
    · have q : (A x == (at' : Int)) = false := by simp [hAx]
      gi_wp2
      exact ⟨KeepsFrom.refl _ _, Below.refl _ _, ⟨fun y hy => (List.mem_append.1 hy).elim (hp y) (fun e => by simp at e; subst e; exact hAx), hca, hcr, hfr, hcn⟩, hB⟩
  case done =>
    rintro Dd ys W hD rfl ⟨⟨hne, hca, hcr, hfr, hcn⟩, hB⟩ hK
    obtain ⟨f0, _, _, _⟩ := HBX.out.agree (hB.block g HBX.out.lt)
    have hss := (hB.cell (p := ⟨b, off + at', none⟩) (World.block_lt_of_cell? w _ HS.out)).trans HS.out
    have ht0 : (0 : Int) ≤ (at' : Int) := by omega
    have ht1 : (at' : Int) < (nS : Int) := by omega
    rw [hS] at f0
    have HF := hid (show W.cell? ⟨g, 0, none⟩ = some (.slice (some ⟨b, off, none⟩) nS cS) ∧ W.cell? ⟨w.heap.size, 0, none⟩ = some (.int .i64 (at' : Int)) ∧ W.cell? ⟨b, off + at', none⟩ = some (.slice sv sl sc) ∧ W.cell? ⟨w.heap.size + 1, 0, none⟩ = some (.slice none 0 0) ∧ W.frozen? ⟨w.heap.size + 1, 0, none⟩ = false from ⟨f0, hca, hss, hcr, hfr⟩)
    have HKK := hid hK
    have HBB := hid hB
    have HNE := hid hne
    have HCR := hid hcr
    clear f0 hca hss hfr hcr hcn hB hne hK
    gi_wp2
    refine wpIn_wide.2 ?_
    refine wp_region_noPanic ?_
    refine region_K 7 (fun X => X.cell? ⟨g, 0, none⟩ = some (.slice (some ⟨b, off, none⟩) nS cS) ∧ X.cell? ⟨w.heap.size, 0, none⟩ = some (.int .i64 (at' : Int)) ∧ X.cell? ⟨b, off + at', none⟩ = some (.slice sv sl sc) ∧ X.cell? ⟨w.heap.size + 1, 0, none⟩ = some (.slice none 0 0) ∧ X.frozen? ⟨w.heap.size + 1, 0, none⟩ = false) (by kernel_rfl) ?_ (fun hHeld => ?_)
    · exact HF.out
    refine anyK_take (i := 0) (v := ?v901) rfl (by kernel_rfl) (by kernel_rfl) (by kernel_rfl) (by kernel_rfl) (fun _ _ _ h => h) (by rfl) hHeld ?hy901 (some 20) (by rfl) ?rest901
    case hy901 => (intro W hSw; (try dsimp only at hSw); go_simp; (try with_reducible rfl))
    try simp only [Act.put]
    try simp only [List.setIfInBounds_toArray]
    try simp only [List.set_cons_succ, List.set_cons_zero]
    refine anyK_take (i := 1) (v := ?v902) rfl (by kernel_rfl) (by kernel_rfl) (by kernel_rfl) (by kernel_rfl) (fun _ _ _ h => h) (by rfl) hHeld ?hy902 (some 21) (by rfl) ?rest902
    case hy902 => (intro W hSw; (try dsimp only at hSw); go_simp; (try with_reducible rfl))
    try simp only [Act.put]
    try simp only [List.setIfInBounds_toArray]
    try simp only [List.set_cons_succ, List.set_cons_zero]
    refine anyK_take (i := 2) (v := ?v903) rfl (by kernel_rfl) (by kernel_rfl) (by kernel_rfl) (by kernel_rfl) (fun _ _ _ h => h) (by rfl) hHeld ?hy903 (some 22) (by rfl) ?rest903
    case hy903 => (intro W hSw; (try dsimp only at hSw); go_simp; (try with_reducible rfl))
    try simp only [Act.put]
    try simp only [List.setIfInBounds_toArray]
    try simp only [List.set_cons_succ, List.set_cons_zero]
    refine anyK_take (i := 3) (v := ?v904) rfl (by kernel_rfl) (by kernel_rfl) (by kernel_rfl) (by kernel_rfl) (fun _ _ _ h => h) (by rfl) hHeld ?hy904 (some 23) (by rfl) ?rest904
    case hy904 => (intro W hSw; (try dsimp only at hSw); go_simp; (try with_reducible rfl))
    try simp only [Act.put]
    try simp only [List.setIfInBounds_toArray]
    try simp only [List.set_cons_succ, List.set_cons_zero]
    refine anyK_take (i := 4) (v := ?v905) rfl (by kernel_rfl) (by kernel_rfl) (by kernel_rfl) (by kernel_rfl) (fun _ _ _ h => h) (by rfl) hHeld ?hy905 (some 24) (by rfl) ?rest905
    case hy905 => (intro W hSw; (try dsimp only at hSw); go_simp; (try with_reducible rfl))
    try simp only [Act.put]
    try simp only [List.setIfInBounds_toArray]
    try simp only [List.set_cons_succ, List.set_cons_zero]
    refine anyK_take (i := 5) (v := ?v906) rfl (by kernel_rfl) (by kernel_rfl) (by kernel_rfl) (by kernel_rfl) (fun _ _ _ h => h) (by rfl) hHeld ?hy906 (some 25) (by rfl) ?rest906
    case hy906 => (intro W hSw; (try dsimp only at hSw); go_simp; (try with_reducible rfl))
    try simp only [Act.put]
    try simp only [List.setIfInBounds_toArray]
    try simp only [List.set_cons_succ, List.set_cons_zero]
    refine anyK_take (i := 6) (v := ?v907) rfl (by kernel_rfl) (by kernel_rfl) (by kernel_rfl) (by kernel_rfl) (fun _ _ _ h => h) (by rfl) hHeld ?hy907 (some 26) (by rfl) ?rest907
    case hy907 => (intro W hSw; (try dsimp only at hSw); go_simp; (try with_reducible rfl))
    try simp only [Act.put]
    try simp only [List.setIfInBounds_toArray]
    try simp only [List.set_cons_succ, List.set_cons_zero]
    refine anyK_last (by kernel_rfl) rfl (fun K hK => ?_)
    go_simp
    refine hK.out _ _ ?_
    clear hK K hHeld
    refine anyK_done (by kernel_rfl) (NoPanic.normal ?_) _
    gi_wp2
    have HK2 : (W.setCell ⟨w.heap.size + 1, 0, none⟩ (.slice sv sl sc)).drew.heap[Dd]? = some (.deferred (some [])) := (KeepsOthers.setCell W ⟨w.heap.size + 1, 0, none⟩ (.slice sv sl sc)).same Dd _ HKK.out rfl
    refine ⟨by simp, .inl ⟨_, _, rfl, run_takeDeferred HK2, ?_⟩⟩
    have hc5 := cell_kept (W := (W.setCell ⟨w.heap.size + 1, 0, none⟩ (.slice sv sl sc)).drew) (World.cell?_setCell_same' W ⟨w.heap.size + 1, 0, none⟩ (.slice sv sl sc) (by rw [HCR.out]; rfl)) (grownBy_putObj' _ Dd (.deferred none)) (fun r e => by cases e; exact ⟨_, HK2, rfl⟩)
    refine ⟨.slice sv sl sc, ?_, .inl ⟨rfl, fun j hj => HNE.out j (by simp only [dn, List.mem_map, List.mem_range]; exact ⟨nW - 1 - j, by omega, by omega⟩)⟩, ((HBB.out.setCell (p := ⟨w.heap.size + 1, 0, none⟩) (by simp) _).drew).trans (belowK_b (w := w) (Nat.le_refl _) _ Dd _ _ (by simp at hD; omega) HK2 rfl rfl)⟩
    simp [results, Tryd.f42, go_sem, hc5]
  case stop =>
    rintro Dd c pre W hD ⟨k, hk, rfl⟩ ⟨⟨rfl, ini, last, e1, e2, e3, hcr⟩, hB⟩ hK
    gi_wp2
    refine ⟨by simp, .inl ⟨_, _, rfl, run_takeDeferred hK, ?_⟩⟩
    have hc5 := cell_kept hcr (grownBy_putObj' _ Dd (.deferred none)) (fun r e => by cases e; exact ⟨_, hK, rfl⟩)
    obtain ⟨k', rfl⟩ : ∃ k', k = k' + 1 := by
      cases k with
      | zero => simp [dn] at e1
      | succ k' => exact ⟨k', rfl⟩
    rw [dn_succ] at e1
    obtain ⟨rfl, e5⟩ := List.append_inj' e1 rfl
    obtain rfl : nW - 1 - k' = last := by simpa using e5
    refine ⟨.slice (da (nW - 1 - k')) (dl (nW - 1 - k')) (dc (nW - 1 - k')), ?_, .inr ⟨nW - 1 - k', by omega, rfl, e3, fun j hj hjn => e2 j (by simp only [dn, List.mem_map, List.mem_range]; exact ⟨nW - 1 - j, by omega, by omega⟩)⟩, hB.trans (belowK_b (w := w) (Nat.le_refl _) W Dd _ _ (by simp at hD; omega) hK rfl rfl)⟩
    simp [results, Tryd.f42, go_sem, hc5]
end Go.Proofs.YtnnnehjlegjejaaDoor
