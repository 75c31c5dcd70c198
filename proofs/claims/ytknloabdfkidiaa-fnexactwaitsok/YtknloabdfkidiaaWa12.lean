/- Waits in memory, and the contracts of the laws' toWait, toWaitS, szWaitS, eqWait, eqWaitS, markWaitS, heldWaitS. Conditions: at most 2^21 waits. -/
import Derived.Test.YtknloabdfkidiaaBase
import Derived.Test.YtknloabdfkidiaaDk
import Derived.Test.YtknloabdfkidiaaAl
import Derived.Test.YtknloabdfkidiaaNi
import Derived.Test.YtknloabdfkidiaaNm9
import Derived.Test.YtknloabdfkidiaaOty
import Derived.Test.YtknloabdfkidiaaRk3
import Derived.Laws.Tables
import Derived.Laws.CopyOwn
import Derived.Deep.RegionHeld3
import Derived.Deep.MidRow
namespace Go.Proofs.Ytknloabdfkidiaa
open Go.RowKit
set_option maxRecDepth 100000

abbrev Wt := Int × Int
def wt0 : Wt := (0, 0)
def cellsW : List Wt → List Value
  | [] => []
  | p :: l => .int .i64 p.1 :: .int .i64 p.2 :: cellsW l
theorem cellsW_len : ∀ l : List Wt, (cellsW l).length = l.length * 2
  | [] => rfl
  | p :: l => by simp [cellsW, cellsW_len l]; omega
theorem cellsW_app : ∀ a b : List Wt, cellsW (a ++ b) = cellsW a ++ cellsW b
  | [], b => rfl
  | p :: a, b => by simp [cellsW, cellsW_app a b]
theorem cellsW_at : ∀ (l : List Wt) (i : Nat), i < l.length → (cellsW l)[i * 2]? = some (.int .i64 (l.getD i wt0).1) ∧ (cellsW l)[i * 2 + 1]? = some (.int .i64 (l.getD i wt0).2)
  | p :: l, 0, _ => ⟨rfl, rfl⟩
  | p :: l, i + 1, h => by
    have := cellsW_at l i (by simpa using h)
    rw [show (i + 1) * 2 = i * 2 + 1 + 1 by omega]
    simpa [cellsW] using this
theorem cellsW_set : ∀ (l : List Wt) (k : Nat) (p : Wt), k < l.length → ((cellsW l).set (k * 2) (.int .i64 p.1)).set (k * 2 + 1) (.int .i64 p.2) = cellsW (l.set k p)
  | q :: l, 0, p, _ => by simp [cellsW]
  | q :: l, k + 1, p, h => by
    have ih := cellsW_set l k p (by simpa using h)
    rw [show (k + 1) * 2 = k * 2 + 1 + 1 by omega]
    simp only [cellsW, List.set_cons_succ, ← ih]
theorem zeroW (n : Nat) : cellsW (List.replicate n wt0) = (List.replicate n [Value.int .i64 0, .int .i64 0]).flatten := by
  induction n with
  | zero => rfl
  | succ n ih => rw [List.replicate_succ, cellsW, ih, List.replicate_succ]; rfl
def bdW (l : List Wt) : Prop := ∀ i, (-9223372036854775808 ≤ (l.getD i wt0).1 ∧ (l.getD i wt0).1 ≤ 9223372036854775807) ∧ (-9223372036854775808 ≤ (l.getD i wt0).2 ∧ (l.getD i wt0).2 ≤ 9223372036854775807)
/-- A slice of waits, read. -/
structure ReadsW2 (w : World) (ad : Option Addr) (n : Nat) (l : List Wt) : Prop where
  len : l.length = n
  cells : n = 0 ∨ ∃ b off, ad = some ⟨b, off, none⟩ ∧ ∀ i, i < n → w.cell? ⟨b, off + i * 2, none⟩ = some (.int .i64 (l.getD i wt0).1) ∧ w.cell? ⟨b, off + i * 2 + 1, none⟩ = some (.int .i64 (l.getD i wt0).2)
  bd : bdW l
section
variable {w w' : World} {ad : Option Addr} {n : Nat} {l : List Wt}
theorem ReadsW2.below (h : ReadsW2 w ad n l) {B : Nat} (hb : Below B w w') (hB : w.heap.size ≤ B) : ReadsW2 w' ad n l := by
  refine ⟨h.len, ?_, h.bd⟩
  rcases h.cells with h0 | ⟨b, off, rfl, hc⟩
  · exact .inl h0
  · refine .inr ⟨b, off, rfl, fun i hi => ?_⟩
    obtain ⟨h1, h2⟩ := hc i hi
    have hlt := World.block_lt_of_cell? w _ h1
    simp only at hlt
    exact ⟨(hb.cell (p := ⟨b, off + i * 2, none⟩) (by simp; omega)).trans h1, (hb.cell (p := ⟨b, off + i * 2 + 1, none⟩) (by simp; omega)).trans h2⟩
theorem ReadsW2.at (h : ReadsW2 w ad n l) {k : Nat} (hk : k < n) : ∃ b off, ad = some ⟨b, off, none⟩ ∧ w.cell? ⟨b, off + k * 2, none⟩ = some (.int .i64 (l.getD k wt0).1) ∧ w.cell? ⟨b, off + k * 2 + 1, none⟩ = some (.int .i64 (l.getD k wt0).2) := by
  rcases h.cells with h0 | ⟨b, off, rfl, hc⟩
  · omega
  · exact ⟨b, off, rfl, hc k hk⟩
theorem ReadsW2.own {base : Nat} {a : Option Addr} {c : Nat} (h : w.ownsRow base 29 2 (.slice a n c) n (cellsW l)) (hb : bdW l) : ReadsW2 w a n l := by
  have hl : l.length = n := by have := h.1; rw [cellsW_len] at this; omega
  refine ⟨hl, ?_, hb⟩
  rcases h.2 with ⟨_, h0⟩ | ⟨g, cap, cur, e, _⟩
  · exact .inl h0
  · cases e
    refine .inr ⟨g, 0, rfl, fun i hi => ?_⟩
    have hc := cellsW_at l i (by omega)
    refine ⟨?_, ?_⟩
    · rw [Nat.zero_add, h.cellAt (i * 2) (by omega)]; exact hc.1
    · rw [Nat.zero_add, h.cellAt (i * 2 + 1) (by omega)]; exact hc.2
end
theorem size_wt : (Try.prog.info? 29).map (·.size) = some 2 := by kernel_rfl
theorem Try.infoWt : (Try.prog.info? 29).map (fun i => (i.zero, i.size, i.bytes)) = some (some (.agg #[.int .i64 0, .int .i64 0]), 2, 16) := by kernel_rfl

set_option maxHeartbeats 1600000 in
theorem toWait (x y : Int) (w : World) :
    Calls Try.prog 34 #[.agg #[.int .i64 x, .int .i64 y]] w fun e w' => e = .returned (.agg #[.int .i64 x, .int .i64 y]) ∧ Below w.heap.size w w' := by
  obtain ⟨z3, r1, r2, b3⟩ := three w (.cells #[.int .i64 x, .int .i64 y] 55) (.cells #[.int .i64 0, .int .i64 0] 29) (.cells #[.int .i64 x, .int .i64 y] 29)
  have H1 := hid r1
  have H2 := hid r2
  have HB := hid b3
  have HZ := hid z3
  clear z3 r1 r2 b3
  go_enter Try.func34, Try.ntmps34
  go_wp2_with (first
    | (refine wpList_load_row rfl 29 (.tmp 3) rfl (w.heap.size + 1 + 1) rfl 29 _ (0, 0) _ H2.out Try.underlying29 rfl size_wt ?_)
    | (refine wpList_store_row rfl 29 (.tmp 2) _ rfl (w.heap.size + 1) #[.int .i64 x, .int .i64 y] rfl rfl 29 _ H1.out ?s7 ?s8 ?s9 ?_))
  case s7 => exact size_wt
  case s8 => rfl
  case s9 => simp [Value.oneCell']
  exact bodyPost_ret (results_cell_row Try.results34 _ _ (w.heap.size + 1) 29 _ (0, 0) _ rfl (setRow_heap _ _ _ _ _ _ H1.out) Try.underlying29 rfl size_wt) rfl ⟨rfl, below_setRow HB.out (by omega) _⟩

set_option maxHeartbeats 1600000 in
theorem toWaitS {ad : Option Addr} {n : Nat} (cap : Nat) {l : List Wt} {w : World} (h : ReadsW2 w ad n l) (hn : n ≤ 2097152) :
    Calls Try.prog 18 #[.slice ad n cap] w fun e w' => e = .returned (.slice (some ⟨w.heap.size, 0, none⟩) n n) ∧ w'.ownsRow w.heap.size 29 2 (.slice (some ⟨w.heap.size, 0, none⟩) n n) n (cellsW l) ∧ Below w.heap.size w w' := by
  obtain ⟨i0, hi, hz0, hz1, hz2⟩ := info_parts Try.infoWt
  have hl := h.len
  go_enter Try.func18, Try.ntmps18
  go_wp2_with (at_make; refine wpList_make_full _ rfl _ _ 24 rfl w.heap.size 29 i0 (.agg #[.int .i64 0, .int .i64 0]) 2 Try.underlying24 hi hz0 hz1 _ _ _ _ n rfl rfl (by omega) (by omega) ?b2 ?b3 (Nat.le_refl _) ?_)
  case b2 => rw [hz2]; omega
  case b3 => unfold maxLen; omega
  intro sn0' hown0 hgrow0
  go_wp2
  go_loopw [4] (fun i wr => ∃ k : Nat, k ≤ n ∧ i = .int .i64 k ∧ Hid (wr.ownsRow w.heap.size 29 2 (.slice (some ⟨w.heap.size, 0, none⟩) n n) n (cellsW (l.take k ++ List.replicate (n - k) wt0))) ∧ Hid (Below w.heap.size w wr))
    (fun i _ => n - (intOf i).toNat)
  case atStart =>
    refine ⟨0, Nat.zero_le _, rfl, hid ?_, hid ((Below.refl _ _).grown hgrow0 (Nat.le_refl _) (fun k h => by cases h))⟩
    rw [made2n, ← zeroW] at hown0
    simpa using hown0
  case round =>
    obtain ⟨k, hk, rfl, hown, hnx⟩ := hrel
    by_cases hlt : k < n
    · have hlt' : (k : Int) < (n : Int) := by omega
      obtain ⟨b, off, rfl, x0', x1'⟩ := h.at (k := k) hlt
      have hbl := World.block_lt_of_cell? w _ x0'
      have c0 := (hnx.out.cell (p := ⟨b, off + k * 2, none⟩) (by exact hbl)).trans x0'
      have c1 := (hnx.out.cell (p := ⟨b, off + k * 2 + 1, none⟩) (by exact hbl)).trans x1'
      have HT := hid (show l.take (k + 1) = l.take k ++ [l.getD k wt0] by
        rw [List.take_add_one, List.getElem?_eq_getElem (by omega), Option.toList_some]
        simp [List.getD, show k < l.length by omega])
      generalize l.getD k wt0 = p at *
      obtain ⟨x, y⟩ := p
      simp only at c0 c1
      clear x0' x1' hown0 hgrow0
      go_wp2_with fail
      clear c0 c1
      refine (toWait x y wr).mono ?_
      rintro e w1 ⟨rfl, b1⟩
      have hown1 := owns_below b1 (by have := hnx.out.size; omega) hown.out
      have hel : (l.take k ++ List.replicate (n - k) wt0).length = n := by simp; omega
      have hcc : ∀ q, q < 2 → ∃ v, w1.cell? ⟨w.heap.size, k * 2 + q, none⟩ = some v := fun q hq => by
        rw [hown1.cellAt (k * 2 + q) (by omega)]
        exact ⟨_, List.getElem?_eq_getElem (by rw [cellsW_len, hel]; omega)⟩
      obtain ⟨v0, d0⟩ := hcc 0 (by omega)
      obtain ⟨v1, d1⟩ := hcc 1 (by omega)
      simp only [Nat.add_zero] at d0
      have f0 := hown1.frozenAt (k * 2)
      have f1 := hown1.frozenAt (k * 2 + 1)
      have S0 := hown1.stored (k * 2) (.int .i64 x)
      have S1 := S0.1.stored (k * 2 + 1) (.int .i64 y)
      have V2 := ((hnx.out.trans (b1.mono hnx.out.size)).setCell (p := ⟨w.heap.size, k * 2, none⟩) (Nat.le_refl _) (.int .i64 x)).setCell (p := ⟨w.heap.size, k * 2 + 1, none⟩) (Nat.le_refl _) (.int .i64 y)
      have O2 := S1.1
      rw [cellsW_set _ k (x, y) (by rw [hel]; omega), set_rep9 _ k n wt0 _ (by simp; omega) hlt, ← HT.out] at O2
      have HOO := hid O2
      have HV := hid V2
      clear S0 S1 V2 O2 hown1 b1 hcc hel
      go_wp2_with fail
      go_roundw
      case rel => exact ⟨k + 1, by omega, by go_num, HOO, HV⟩
      case measure => simp [intOf]; omega
    · go_wp2
      go_ret
      have hkn : k = n := by omega
      subst hkn
      refine ⟨rfl, ?_, hnx.out⟩
      have := hown.out
      rw [List.take_of_length_le (by omega)] at this
      simpa using this

set_option maxHeartbeats 1600000 in
theorem szWaitS (ad : Option Addr) (n cap : Nat) (left : Int) (hn : n ≤ 9223372036854775807) (h0 : 0 ≤ left) (h1 : left ≤ 1048576) (w : World) :
    Calls Try.prog 16 #[.slice ad n cap, .int .i64 left] w fun e w' => e = .returned (.int .i64 (if left < n then -1 else left - n)) ∧ w' = w := by
  have a1 : (0 : Int) ≤ (n : Int) := by omega
  have a2 : (n : Int) ≤ 9223372036854775807 := by omega
  by_cases hbig : left < n
  · have q : left - (n : Int) < 0 := by omega
    rw [if_pos hbig]
    go_enter Try.func16, Try.ntmps16
    go_wp2
    go_ret
    exact ⟨rfl, rfl⟩
  · have q : ¬ left - (n : Int) < 0 := by omega
    rw [if_neg hbig]
    go_enter Try.func16, Try.ntmps16
    go_wp2
    go_ret
    exact ⟨rfl, rfl⟩

set_option maxHeartbeats 1600000 in
theorem eqWait (x y : Int) (w : World) :
    Calls Try.prog 35 #[.agg #[.int .i64 x, .int .i64 y], .agg #[.int .i64 x, .int .i64 y]] w fun e w' => e = .returned (.bool true) ∧ Below w.heap.size w w' := by
  have HB := hid (two w (.cells #[.int .i64 x, .int .i64 y] 29) (.cells #[.int .i64 x, .int .i64 y] 29))
  have q0 : (x != x) = false := by simp
  have q1 : (y != y) = false := by simp
  go_enter Try.func35, Try.ntmps35
  go_wp2_with fail
  go_ret
  exact ⟨rfl, HB.out⟩

set_option maxHeartbeats 6400000 in
theorem eqWaitS {ad ad' : Option Addr} {n : Nat} (cap cap' : Nat) {l : List Wt} {w : World} (h : ReadsW2 w ad n l) (h' : ReadsW2 w ad' n l) (hn : n ≤ 2097152) :
    Calls Try.prog 19 #[.slice ad n cap, .slice ad' n cap'] w fun e w' => e = .returned (.bool true) ∧ Below w.heap.size w w' := by
  go_enter Try.func19, Try.ntmps19
  go_wp2
  go_loopw [5] (fun i wr => ∃ k : Nat, k ≤ n ∧ i = .int .i64 k ∧ Hid (Below w.heap.size w wr)) (fun i _ => n - (intOf i).toNat)
  case atStart => exact ⟨0, Nat.zero_le _, rfl, hid (Below.refl _ _)⟩
  case round =>
    obtain ⟨k, hk, rfl, hS⟩ := hrel
    by_cases hlt : k < n
    · have hlt' : (k : Int) < (n : Int) := by omega
      have hk0 : (0 : Int) ≤ (k : Int) := by omega
      obtain ⟨b, off, rfl, x0', x1'⟩ := h.at (k := k) hlt
      obtain ⟨b', off', rfl, y0', y1'⟩ := h'.at (k := k) hlt
      have bl := World.block_lt_of_cell? w _ x0'
      have bl' := World.block_lt_of_cell? w _ y0'
      have bD := (Still.drew wr).below wr.heap.size
      have bE := hS.out.trans (bD.mono hS.out.size)
      generalize l.getD k wt0 = p at *
      obtain ⟨x, y⟩ := p
      simp only at x0' x1' y0' y1'
      have BX := hid (show wr.drew.cell? ⟨b, off + k * 2, none⟩ = some (.int .i64 x) ∧ wr.drew.cell? ⟨b, off + k * 2 + 1, none⟩ = some (.int .i64 y) ∧ wr.drew.cell? ⟨b', off' + k * 2, none⟩ = some (.int .i64 x) ∧ wr.drew.cell? ⟨b', off' + k * 2 + 1, none⟩ = some (.int .i64 y) from
        ⟨(bE.cell (p := ⟨b, off + k * 2, none⟩) (by exact bl)).trans x0', (bE.cell (p := ⟨b, off + k * 2 + 1, none⟩) (by exact bl)).trans x1', (bE.cell (p := ⟨b', off' + k * 2, none⟩) (by exact bl')).trans y0', (bE.cell (p := ⟨b', off' + k * 2 + 1, none⟩) (by exact bl')).trans y1'⟩)
      have BL := hid (show b < wr.drew.heap.size ∧ b' < wr.drew.heap.size from ⟨Nat.lt_of_lt_of_le bl bE.size, Nat.lt_of_lt_of_le bl' bE.size⟩)
      clear x0' x1' y0' y1' bl bl'
      go_wp2
      replace hS := hid bE
      clear bD bE
      refine region_K 99 (fun W => W.cell? ⟨b, off + k * 2, none⟩ = some (.int .i64 x) ∧ W.cell? ⟨b, off + k * 2 + 1, none⟩ = some (.int .i64 y) ∧ W.cell? ⟨b', off' + k * 2, none⟩ = some (.int .i64 x) ∧ W.cell? ⟨b', off' + k * 2 + 1, none⟩ = some (.int .i64 y)) (by kernel_rfl) ?_ (fun hHeld => ?_)
      · exact BX.out
      generalize wr.drew = v0 at *
      refine anyK_take2 (i := 0) (v := ?v0) rfl (by kernel_rfl) (by kernel_rfl) (by kernel_rfl) (by rfl) (fun _ _ _ h => h) (by rfl) hHeld ?hy0 (some 17) (by rfl) ?rest0
      case hy0 => (intro W hSw; obtain ⟨x0, x1, y0, y1⟩ := hSw; go_simp; (try with_reducible rfl))
      try simp only [Act.put, List.setIfInBounds_toArray, List.set_cons_succ, List.set_cons_zero]
      refine anyK_take2 (i := 1) (v := ?v1) rfl (by kernel_rfl) (by kernel_rfl) (by kernel_rfl) (by rfl) (fun _ _ _ h => h) (by rfl) hHeld ?hy1 (some 18) (by rfl) ?rest1
      case hy1 => (intro W hSw; obtain ⟨x0, x1, y0, y1⟩ := hSw; go_simp; (try with_reducible rfl))
      try simp only [Act.put, List.setIfInBounds_toArray, List.set_cons_succ, List.set_cons_zero]
      refine anyK_take2 (i := 2) (v := ?v2) rfl (by kernel_rfl) (by kernel_rfl) (by kernel_rfl) (by rfl) (fun _ _ _ h => h) (by rfl) hHeld ?hy2 (some 19) (by rfl) ?rest2
      case hy2 => (intro W hSw; obtain ⟨x0, x1, y0, y1⟩ := hSw; go_simp; (try with_reducible rfl))
      try simp only [Act.put, List.setIfInBounds_toArray, List.set_cons_succ, List.set_cons_zero]
      refine anyK_take2 (i := 3) (v := ?v3) rfl (by kernel_rfl) (by kernel_rfl) (by kernel_rfl) (by rfl) (fun _ _ _ h => h) (by rfl) hHeld ?hy3 (some 20) (by rfl) ?rest3
      case hy3 => (intro W hSw; obtain ⟨x0, x1, y0, y1⟩ := hSw; go_simp; (try with_reducible rfl))
      try simp only [Act.put, List.setIfInBounds_toArray, List.set_cons_succ, List.set_cons_zero]
      refine anyK_take2 (i := 4) (v := ?v4) rfl (by kernel_rfl) (by kernel_rfl) (by kernel_rfl) (by rfl) (fun _ _ _ h => h) (by rfl) hHeld ?hy4 (some 21) (by rfl) ?rest4
      case hy4 => (intro W hSw; obtain ⟨x0, x1, y0, y1⟩ := hSw; go_simp; (try with_reducible rfl))
      try simp only [Act.put, List.setIfInBounds_toArray, List.set_cons_succ, List.set_cons_zero]
      refine anyK_take2 (i := 5) (v := ?v5) rfl (by kernel_rfl) (by kernel_rfl) (by kernel_rfl) (by rfl) (fun _ _ _ h => h) (by rfl) hHeld ?hy5 (some 22) (by rfl) ?rest5
      case hy5 => (intro W hSw; obtain ⟨x0, x1, y0, y1⟩ := hSw; go_simp; (try with_reducible rfl))
      try simp only [Act.put, List.setIfInBounds_toArray, List.set_cons_succ, List.set_cons_zero]
      refine anyK_take2 (i := 6) (v := ?v6) rfl (by kernel_rfl) (by kernel_rfl) (by kernel_rfl) (by rfl) (fun _ _ _ h => h) (by rfl) hHeld ?hy6 (some 23) (by rfl) ?rest6
      case hy6 => (intro W hSw; obtain ⟨x0, x1, y0, y1⟩ := hSw; go_simp; (try with_reducible rfl))
      try simp only [Act.put, List.setIfInBounds_toArray, List.set_cons_succ, List.set_cons_zero]
      refine anyK_take2 (i := 7) (v := ?v7) rfl (by kernel_rfl) (by kernel_rfl) (by kernel_rfl) (by rfl) (fun _ _ _ h => h) (by rfl) hHeld ?hy7 (some 24) (by rfl) ?rest7
      case hy7 => (intro W hSw; obtain ⟨x0, x1, y0, y1⟩ := hSw; go_simp; (try with_reducible rfl))
      try simp only [Act.put, List.setIfInBounds_toArray, List.set_cons_succ, List.set_cons_zero]
      refine anyK_step (i := 8) (by kernel_rfl) rfl (fun KP hK => ?_)
      go_simp
      refine (eqWait x y v0).mono ?_
      rintro e u ⟨rfl, b1⟩
      have HS2 := hid (hS.out.trans (b1.mono hS.out.size))
      obtain ⟨q0, q1, q2, q3⟩ := BX.out
      replace BX := hid (And.intro ((b1.cell (p := ⟨b, off + k * 2, none⟩) (by exact BL.out.1)).trans q0) (And.intro ((b1.cell (p := ⟨b, off + k * 2 + 1, none⟩) (by exact BL.out.1)).trans q1) (And.intro ((b1.cell (p := ⟨b', off' + k * 2, none⟩) (by exact BL.out.2)).trans q2) ((b1.cell (p := ⟨b', off' + k * 2 + 1, none⟩) (by exact BL.out.2)).trans q3))))
      clear b1 q0 q1 q2 q3
      go_wp2_with fail
      clear hHeld
      refine hK.out _ _ BX.out (fun hHeld => ?_)
      clear hK KP
      try simp only [Act.put, List.setIfInBounds_toArray, List.set_cons_succ, List.set_cons_zero]
      refine anyK_step (i := 9) (by kernel_rfl) rfl (fun KP hK => ?_)
      go_simp
      clear hHeld
      refine hK.out _ _ BX.out (fun hHeld => ?_)
      clear hK KP
      try simp only [Act.put, List.setIfInBounds_toArray, List.set_cons_succ, List.set_cons_zero]
      refine anyK_done (by kernel_rfl) ?_ _
      clear hHeld
      go_wp2_with fail
      go_roundw
      case rel => exact ⟨k + 1, by omega, by go_num, HS2⟩
      case measure => simp [intOf]; omega
    · have hlt' : ¬ (k : Int) < (n : Int) := by omega
      go_wp2
      go_ret
      exact ⟨rfl, hS.out⟩

/-- What markWaitS writes. -/
def marksW (k : Int) (n : Nat) : List Wt := (List.range n).map fun i => (k + 2 * (i : Nat), k + 2 * (i : Nat) + 1)
theorem marksW_length (k : Int) (n : Nat) : (marksW k n).length = n := by simp [marksW]
theorem marksW_at (k : Int) (n i : Nat) (h : i < n) : (marksW k n).getD i wt0 = (k + 2 * (i : Nat), k + 2 * (i : Nat) + 1) := by simp [marksW, List.getD, h]
theorem marksW_bd (k : Int) (n : Nat) (h0 : 0 ≤ k) (h1 : k ≤ 1000000000) (hn : n ≤ 2097152) : bdW (marksW k n) := by
  intro i
  by_cases h : i < n
  · rw [marksW_at k n i h]; simp only; omega
  · rw [List.getD_eq_getElem?_getD, List.getElem?_eq_none (by rw [marksW_length]; omega)]; simp [wt0]
theorem marksW_take (k : Int) (i : Nat) : (marksW k i) ++ [(k + 2 * (i : Nat), k + 2 * (i : Nat) + 1)] = marksW k (i + 1) := by simp [marksW, List.range_succ]

set_option maxHeartbeats 3200000 in
theorem markWaitS {base n : Nat} {a : Option Addr} {c : Nat} (k : Int) {l : List Wt} {w : World} (hn : n ≤ 2097152) (hk0 : 0 ≤ k) (hk1 : k ≤ 900000000) (hown : w.ownsRow base 29 2 (.slice a n c) n (cellsW l)) :
    Calls Try.prog 23 #[.slice a n c, .int .i64 k] w fun e w' => e = .returned (.int .i64 (k + 2 * n)) ∧ w'.ownsRow base 29 2 (.slice a n c) n (cellsW (marksW k n)) ∧ w.grownBy w' (Value.slice a n c).ownBlock := by
  have hl : l.length = n := by have := hown.1; rw [cellsW_len] at this; omega
  have HO := hid hown
  clear hown
  go_enter Try.func23, Try.ntmps23
  go_wp2
  go_loopw [1, 5] (fun x i wr => ∃ j : Nat, j ≤ n ∧ i = .int .i64 j ∧ x = .int .i64 (k + 2 * j) ∧ Hid (wr.ownsRow base 29 2 (.slice a n c) n (cellsW (marksW k j ++ l.drop j))) ∧ Hid (w.grownBy wr (Value.slice a n c).ownBlock)) (fun _ i _ => n - (intOf i).toNat)
  case atStart => exact ⟨0, Nat.zero_le _, rfl, by simp, hid (by simpa [marksW] using HO.out), hid (grown_refl _ _)⟩
  case round =>
    clear HO
    obtain ⟨j, hj, rfl, rfl, HO, HG⟩ := hrel
    by_cases hlt : j < n
    · have hlt' : (j : Int) < (n : Int) := by omega
      have hj0 : (0 : Int) ≤ (j : Int) := by omega
      have hrow : ∃ g, a = some ⟨g, 0, none⟩ := by
        rcases HO.out.2 with ⟨_, h0⟩ | ⟨g, cap, cur, e, _⟩
        · omega
        · cases e; exact ⟨g, rfl⟩
      obtain ⟨g, rfl⟩ := hrow
      have hel : (marksW k j ++ l.drop j).length = n := by simp [marksW_length]; omega
      have hcc : ∀ q, q < 2 → ∃ v, wr.cell? ⟨g, j * 2 + q, none⟩ = some v := fun q hq => by
        rw [HO.out.cellAt (j * 2 + q) (by omega)]
        exact ⟨_, List.getElem?_eq_getElem (by rw [cellsW_len, hel]; omega)⟩
      obtain ⟨v0, d0⟩ := hcc 0 (by omega)
      obtain ⟨v1, d1⟩ := hcc 1 (by omega)
      simp only [Nat.add_zero] at d0
      have f0 := HO.out.frozenAt (j * 2)
      have f1 := HO.out.frozenAt (j * 2 + 1)
      have S0 := HO.out.stored (j * 2) (.int .i64 (k + 2 * j))
      have S1 := S0.1.stored (j * 2 + 1) (.int .i64 (k + 2 * j + 1))
      have O2 := S1.1
      have e1 : (marksW k j ++ l.drop j).set j (k + 2 * (j : Nat), k + 2 * (j : Nat) + 1) = marksW k (j + 1) ++ l.drop (j + 1) := by
        rw [List.set_append_right _ _ (by rw [marksW_length]; omega), marksW_length, Nat.sub_self, List.drop_eq_getElem_cons (by omega), List.set_cons_zero, ← marksW_take k j, List.append_assoc]; rfl
      rw [cellsW_set _ j (k + 2 * (j : Nat), k + 2 * (j : Nat) + 1) (by rw [hel]; omega), e1] at O2
      have HO2 := hid O2
      have HG2 := hid (grown_trans (grown_trans HG.out S0.2) S1.2)
      clear S0 S1 O2 hcc hel e1
      obtain ⟨X, hX⟩ : ∃ X : Int, k + 2 * (j : Int) = X := ⟨_, rfl⟩
      have hX0 : 0 ≤ X ∧ X ≤ 905000000 := by omega
      rw [hX] at HO2 HG2 ⊢
      have HX := hid hX
      clear hX
      go_wp2_with fail
      go_roundw
      case rel => exact ⟨j + 1, by omega, by go_num, by rw [show (k + 2 * ((j + 1 : Nat) : Int)) = X + 1 + 1 by have := HX.out; omega], HO2, HG2⟩
      case measure => simp [intOf]; omega
    · have hlt' : ¬ (j : Int) < (n : Int) := by omega
      have hjn : j = n := by omega
      subst hjn
      go_wp2
      go_ret
      refine ⟨rfl, ?_, HG.out⟩
      have := HO.out
      rw [List.drop_eq_nil_of_le (by omega), List.append_nil] at this
      exact this

set_option maxHeartbeats 3200000 in
theorem heldWaitS {ad : Option Addr} {n : Nat} (cap : Nat) (k : Int) {w : World} (h : ReadsW2 w ad n (marksW k n)) (hn : n ≤ 2097152) (hk0 : 0 ≤ k) (hk1 : k ≤ 900000000) :
    Calls Try.prog 28 #[.slice ad n cap, .int .i64 k] w fun e w' => e = .returned (.int .i64 (k + 2 * n)) ∧ w' = w := by
  go_enter Try.func28, Try.ntmps28
  go_wp2
  go_loopw [1, 5] (fun x i wr => ∃ j : Nat, j ≤ n ∧ i = .int .i64 j ∧ x = .int .i64 (k + 2 * j) ∧ wr = w) (fun _ i _ => n - (intOf i).toNat)
  case atStart => exact ⟨0, Nat.zero_le _, rfl, by simp, rfl⟩
  case round =>
    obtain ⟨j, hj, rfl, rfl, rfl⟩ := hrel
    by_cases hlt : j < n
    · have hlt' : (j : Int) < (n : Int) := by omega
      have hj0 : (0 : Int) ≤ (j : Int) := by omega
      obtain ⟨b, off, rfl, x0, x1⟩ := h.at (k := j) hlt
      rw [marksW_at k n j hlt] at x0 x1
      simp only at x0 x1
      obtain ⟨X, hX⟩ : ∃ X : Int, k + 2 * (j : Int) = X := ⟨_, rfl⟩
      have hX0 : 0 ≤ X ∧ X ≤ 905000000 := by omega
      rw [hX] at x0 x1 ⊢
      have HX := hid hX
      clear hX
      go_wp2_with fail
      go_roundw
      case rel => exact ⟨j + 1, by omega, by go_num, by rw [show (k + 2 * ((j + 1 : Nat) : Int)) = X + 1 + 1 by have := HX.out; omega], by trivial⟩
      case measure => simp [intOf]; omega
    · have hlt' : ¬ (j : Int) < (n : Int) := by omega
      have hjn : j = n := by omega
      subst hjn
      go_wp2
      go_ret
      exact ⟨rfl, rfl⟩
end Go.Proofs.Ytknloabdfkidiaa
