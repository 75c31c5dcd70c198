/- The draw of a control; the contracts of the laws' at and big. Conditions: codes of at most 2^21 bytes. -/
import Derived.Test.YtplbejipkaionaaCd17
import Derived.Test.YtplbejipkaionaaDraw
namespace Go.Proofs.Ytplbejipkaionaa
open Go.RowKit
set_option maxRecDepth 100000

set_option maxHeartbeats 1600000 in
theorem l1PickInt {w : World} {g : Nat} {ad : Option Addr} {n cap : Nat} {zs : List Int} (c : Cur w g ad n cap zs) (hn : n ≤ 2097152) {b m c' : Nat} (hm : 0 < m) (hm' : m ≤ 1000) (hb : b ≠ g) (hc : ∀ i, i < m → ∃ x, w.cell? ⟨b, i, none⟩ = some (.int .i64 x)) :
    Calls Try.prog 21 #[.pointer (some ⟨g, 0, none⟩), .slice (some ⟨b, 0, none⟩) m c'] w fun e w' => ∃ x : Int, e = .returned (.int .i64 x) ∧ Cur w' g ad n cap zs ∧ w.grownBy w' (some g) := by
  have HC := hid hc
  clear hc
  go_enter Try.func21, Try.ntmps21
  go_wp2_with fail
  refine (l1Below c hn (m : Int) (by omega) (by omega)).mono ?_
  rintro e w1 ⟨x, rfl, hx0, hx1, c1, g1⟩
  obtain ⟨x, rfl⟩ := Int.eq_ofNat_of_zero_le hx0
  obtain ⟨y, hy⟩ := HC.out x (by omega)
  have hy' := g1.cell hy (by simpa using hb)
  clear hy
  go_wp2_with fail
  go_ret
  exact ⟨_, rfl, c1, g1⟩
set_option maxHeartbeats 1600000 in
theorem law_at {ad : Option Addr} {nn : Nat} (cap : Nat) {zs : List Int} {w : World} (r : Reads w ad nn zs) (hn : nn ≤ 2097152) (i : Nat) (hi : i < 4) :
    Calls Try.prog 11 #[.slice ad nn cap, .int .i64 (i : Int)] w fun e w' => w' = w ∧ ∃ x : Nat, e = .returned (.int .i64 (x : Int)) := by
  by_cases h : i < nn
  · have h' : (i : Int) < (nn : Int) := by omega
    have h0 : (0 : Int) ≤ (i : Int) := by omega
    have hb := r.bd i
    rcases r.cells with h1 | ⟨b, off, rfl, hc⟩
    · omega
    have hcx := hc i h
    obtain ⟨x, hx⟩ := Int.eq_ofNat_of_zero_le hb.1
    rw [hx] at hcx hb
    have hw : IntKind.i64.wrap (x : Int) = (x : Int) := by simp [IntKind.wrap, IntKind.bits, IntKind.signed]; omega
    clear hc
    go_enter Try.func11, Try.ntmps11
    go_wp2_with fail
    go_ret
    exact ⟨rfl, x, rfl⟩
  · have h' : ¬ (i : Int) < (nn : Int) := by omega
    clear r
    go_enter Try.func11, Try.ntmps11
    go_wp2_with fail
    go_ret
    exact ⟨rfl, (i * 7 + nn) % 256, by simp⟩
theorem law_big17 (ad : Option Addr) (n cap : Nat) (w : World) :
    Calls Try.prog 6 #[.slice ad n cap] w fun e w' => e = .returned (.bool (decide ((1048576 : Int) < (n : Int)))) ∧ w' = w := by
  go_enter Try.func6, Try.ntmps6
  go_wp2
  go_ret
  exact ⟨rfl, rfl⟩
/-- The draw's way: its answer's box, its cursor. -/
structure DC (w u : World) (g0 g : Nat) (ad : Option Addr) (n cap : Nat) (zs : List Int) : Prop where
  row0 : u.heap[g0]? = some (.cells #[.int .i64 0, .int .i64 0, .int .i64 0, .int .i64 0, .int .i64 0] 25)
  cur : Cur u g ad n cap zs
  lt : g0 < g
  low : w.heap.size ≤ g0
  lt' : g < u.heap.size
  bel : Below w.heap.size w u
theorem DC.grown {w u u' : World} {g0 g : Nat} {ad : Option Addr} {n cap : Nat} {zs : List Int} (h : DC w u g0 g ad n cap zs) (c : Cur u' g ad n cap zs) (gr : u.grownBy u' (some g)) : DC w u' g0 g ad n cap zs :=
  ⟨by rw [gr.block g0 (by have := h.lt; have := h.lt'; omega) (fun e => by have := h.lt; cases e; omega)]; exact h.row0, c, h.lt, h.low, Nat.lt_of_lt_of_le h.lt' gr.size, h.bel.grown gr h.bel.size (fun k e => by cases e; have := h.lt; have := h.low; omega)⟩
theorem DC.below {w u u' : World} {g0 g : Nat} {ad : Option Addr} {n cap : Nat} {zs : List Int} (h : DC w u g0 g ad n cap zs) (b : Below u.heap.size u u') : DC w u' g0 g ad n cap zs :=
  ⟨(b.block g0 (by have := h.lt; have := h.lt'; omega)).trans h.row0, h.cur.below b (Nat.le_refl _), h.lt, h.low, Nat.lt_of_lt_of_le h.lt' b.size, h.bel.trans (b.mono h.bel.size)⟩
theorem DC.other {w u u' : World} {g0 g q : Nat} {ad : Option Addr} {n cap : Nat} {zs : List Int} (h : DC w u g0 g ad n cap zs) (gr : u.grownBy u' (some q)) (hq : g < q) : DC w u' g0 g ad n cap zs :=
  ⟨by rw [gr.block g0 (by have := h.lt; have := h.lt'; omega) (fun e => by have := h.lt; cases e; omega)]; exact h.row0, h.cur.other gr (fun k e => by cases e; exact hq), h.lt, h.low, Nat.lt_of_lt_of_le h.lt' gr.size, h.bel.grown gr h.bel.size (fun k e => by cases e; have := h.lt; have := h.low; omega)⟩
theorem grown_row17 {g : Nat} (w : World) (R : Array Value) : w.grownBy (w.setRow g R) (some g) := ⟨rfl, rfl, rfl, by simp, fun i _ hne => setRow_other _ _ _ _ (fun e => hne (by rw [e]))⟩
theorem grown_cell17 (w : World) (g j : Nat) (v : Value) : w.grownBy (w.setCell ⟨g, j, none⟩ v) (some g) := grown_setCell w g j v
theorem start17 {w u : World} {g : Nat} {ad : Option Addr} {n cap : Nat} {zs : List Int} (c : Cur u g ad n cap zs) (hg : (w.alloc (.cells #[.int .i64 0, .int .i64 0, .int .i64 0, .int .i64 0, .int .i64 0] 25)).heap.size ≤ g) (b : Below (w.alloc (.cells #[.int .i64 0, .int .i64 0, .int .i64 0, .int .i64 0, .int .i64 0] 25)).heap.size (w.alloc (.cells #[.int .i64 0, .int .i64 0, .int .i64 0, .int .i64 0, .int .i64 0] 25)) u) : DC w u w.heap.size g ad n cap zs := by
  have z := alloc_size w (.cells #[.int .i64 0, .int .i64 0, .int .i64 0, .int .i64 0, .int .i64 0] 25)
  have hl : g < u.heap.size := by obtain ⟨i, h, -, hr⟩ := c.row; exact (Array.getElem?_eq_some_iff.1 hr).1
  exact ⟨(b.block w.heap.size (by omega)).trans (heap_alloc_new w _), c, by omega, Nat.le_refl _, hl, (Below.alloc1 w _).trans (b.mono (by omega))⟩

set_option maxHeartbeats 12800000 in
theorem drawControl {ad : Option Addr} {n : Nat} (cap : Nat) {zs : List Int} {w : World} (h : Reads w ad n zs) (hn : n ≤ 2097152) :
    Calls Try.prog 7 #[.slice ad n cap] w fun e w' => ∃ c : Ct, e = .returned (.agg (cellsC c)) ∧ Below w.heap.size w w' := by
  have HL := hid (h.below (Below.alloc1 w (.cells #[.int .i64 0, .int .i64 0, .int .i64 0, .int .i64 0, .int .i64 0] 25)) (Nat.le_refl _))
  have HS := hid (fun (u : World) (g : Nat) (c : Cur u g ad n cap zs) hg b => start17 (w := w) c hg b)
  clear h
  go_enter Try.func7, Try.ntmps7
  go_wp2_with fail
  refine (l1New cap HL.out hn).mono ?_
  rintro e w1 ⟨g, rfl, hg, c, b⟩
  have HD := hid (HS.out _ _ c hg b)
  obtain ⟨g0, hg0⟩ : ∃ g, w.heap.size = g := ⟨_, rfl⟩
  rw [hg0] at HD
  try simp only [hg0]
  clear HL HS hg c b
  go_wp2_with fail
  refine (l1Below HD.out.cur hn 300 (by omega) (by omega)).mono ?_
  rintro e w2 ⟨x0, rfl, p0, q0, c, gr⟩
  replace HD := hid (HD.out.grown c gr)
  clear c gr
  go_wp2_with fail
  refine (l1Below HD.out.cur hn 2 (by omega) (by omega)).mono ?_
  rintro e w2 ⟨x1, rfl, p1, q1, c, gr⟩
  replace HD := hid (HD.out.grown c gr)
  clear c gr
  go_wp2_with fail
  refine (l1Below HD.out.cur hn 3000 (by omega) (by omega)).mono ?_
  rintro e w2 ⟨x2, rfl, p2, q2, c, gr⟩
  replace HD := hid (HD.out.grown c gr)
  clear c gr
  go_wp2_with fail
  refine (l1Below HD.out.cur hn 30 (by omega) (by omega)).mono ?_
  rintro e w2 ⟨x3, rfl, p3, q3, c, gr⟩
  replace HD := hid (HD.out.grown c gr)
  clear c gr
  go_wp2_with fail
  refine (l1Below HD.out.cur hn 16 (by omega) (by omega)).mono ?_
  rintro e w2 ⟨x4, rfl, p4, q4, c, gr⟩
  replace HD := hid (HD.out.grown c gr)
  clear c gr
  have HA := hid (heap_alloc_new w2 (.cells #[.int .i64 0, .int .i64 0, .int .i64 0, .int .i64 0, .int .i64 0] 25))
  go_wp2_with (refine wpList_store_row rfl 25 (.tmp 4) (.tmp 20) rfl w2.heap.size #[.int .i64 (1 + x0), .int .i64 x1, .int .i64 (1 + x2), .int .i64 (1 + x3), .int .i64 x4] rfl rfl 25 _ HA.out ?s7 ?s8 ?s9 ?_)
  case s7 => exact size_ct
  case s8 => rfl
  case s9 => simp [Value.oneCell']
  obtain ⟨sq, hsq⟩ : ∃ x, 1 + x0 = x := ⟨_, rfl⟩
  obtain ⟨ls, hls⟩ : ∃ x, 1 + x2 = x := ⟨_, rfl⟩
  obtain ⟨nx, hnx⟩ : ∃ x, 1 + x3 = x := ⟨_, rfl⟩
  simp only [hsq, hls, hnx]
  clear hsq hls hnx p0 q0 p1 q1 p2 q2 p3 q3 p4 q4
  have R := hid (setRow_heap _ _ _ #[.int .i64 sq, .int .i64 x1, .int .i64 ls, .int .i64 nx, .int .i64 x4] _ _ HA.out)
  have HD2 := hid ((HD.out.below (Below.alloc1 w2 (.cells #[.int .i64 0, .int .i64 0, .int .i64 0, .int .i64 0, .int .i64 0] 25))).other (grown_row17 (w2.alloc (.cells #[.int .i64 0, .int .i64 0, .int .i64 0, .int .i64 0, .int .i64 0] 25)) #[.int .i64 sq, .int .i64 x1, .int .i64 ls, .int .i64 nx, .int .i64 x4]) HD.out.lt')
  obtain ⟨q, hq⟩ : ∃ q, w2.heap.size = q := ⟨_, rfl⟩
  have HQ := hid (show g < q by rw [← hq]; exact HD.out.lt')
  simp only [hq] at R HD2 ⊢
  clear HA HD hq
  generalize (w2.alloc (.cells #[.int .i64 0, .int .i64 0, .int .i64 0, .int .i64 0, .int .i64 0] 25)).setRow q #[.int .i64 sq, .int .i64 x1, .int .i64 ls, .int .i64 nx, .int .i64 x4] = u at *
  generalize x1 = ar at *
  generalize x4 = pg at *
  go_wp2_with fail
  refine (l1Below HD2.out.cur hn 12 (by omega) (by omega)).mono ?_
  rintro e u1 ⟨k, rfl, k0, k1, c, gr⟩
  replace R := hid (show u1.heap[q]? = some (.cells #[.int .i64 sq, .int .i64 ar, .int .i64 ls, .int .i64 nx, .int .i64 pg] 25) by
    rw [gr.block q (Array.getElem?_eq_some_iff.1 R.out).1 (fun e => by have := HQ.out; cases e; omega)]; exact R.out)
  have HD := hid (HD2.out.grown c gr)
  clear c gr HD2
  by_cases e0 : k = 0
  · subst e0
    clear k0 k1
    go_wp2_with fail
    have hn1 := heap_alloc_new u1 (.cells #[.int .i64 0, .int .i64 1000000, .int .i64 1000001] 3)
    have b := Below.alloc1 u1 (.cells #[.int .i64 0, .int .i64 1000000, .int .i64 1000001] 3)
    have HC := fun i (hi : i < 3) => show ∃ x, (u1.alloc (.cells #[.int .i64 0, .int .i64 1000000, .int .i64 1000001] 3)).cell? ⟨u1.heap.size, i, none⟩ = some (.int .i64 x) by
      match i, hi with
      | 0, _ => exact ⟨0, by rw [cell_of_row _ _ _ _ _ _ hn1]; rfl⟩
      | 1, _ => exact ⟨1000000, by rw [cell_of_row _ _ _ _ _ _ hn1]; rfl⟩
      | 2, _ => exact ⟨1000001, by rw [cell_of_row _ _ _ _ _ _ hn1]; rfl⟩
    replace R := hid ((b.block q (Array.getElem?_eq_some_iff.1 R.out).1).trans R.out)
    have hne : u1.heap.size ≠ g := by have := HD.out.lt'; omega
    replace HD := hid (HD.out.below b)
    refine (l1PickInt HD.out.cur hn (by omega) (by omega) hne HC).mono ?_
    rintro e u2 ⟨y, rfl, c, gr⟩
    replace R := hid (show u2.heap[q]? = some (.cells #[.int .i64 sq, .int .i64 ar, .int .i64 ls, .int .i64 nx, .int .i64 pg] 25) by
      rw [gr.block q (Array.getElem?_eq_some_iff.1 R.out).1 (fun e => by have := HQ.out; cases e; omega)]; exact R.out)
    replace HD := hid (HD.out.grown c gr)
    clear c gr hn1 b HC hne
    have c1 : u2.cell? ⟨q, 0, none⟩ = some (.int .i64 sq) := by rw [cell_of_row _ _ _ _ _ _ R.out]; rfl
    have f1 : u2.frozen? ⟨q, 0, none⟩ = false := frozen_of_row _ _ _ _ _ R.out
    have R2 := heap_setCell_same u2 q 0 _ 25 (.int .i64 y) R.out
    replace HD := hid (HD.out.other (grown_cell17 u2 q 0 (.int .i64 y)) HQ.out)
    replace R := hid (show (u2.setCell ⟨q, 0, none⟩ (.int .i64 y)).heap[q]? = some (.cells #[.int .i64 y, .int .i64 ar, .int .i64 ls, .int .i64 nx, .int .i64 pg] 25) from R2)
    clear R2
    go_wp2_with (first
      | (refine wpList_load_row rfl 25 (.tmp 4) rfl q rfl 25 _ (0, 0) _ R.out Try.underlying25 rfl size_ct ?_)
      | (refine wpList_store_row rfl 25 (.tmp 2) (.tmp 53) rfl g0 #[.int .i64 y, .int .i64 ar, .int .i64 ls, .int .i64 nx, .int .i64 pg] rfl rfl 25 _ HD.out.row0 ?u7 ?u8 ?u9 ?_))
    case u7 => exact size_ct
    case u8 => rfl
    case u9 => simp [Value.oneCell']
    exact bodyPost_ret (results_cell_row Try.results7 _ _ g0 25 #[.int .i64 y, .int .i64 ar, .int .i64 ls, .int .i64 nx, .int .i64 pg] (0, 0) _ rfl (setRow_heap _ _ _ _ _ _ HD.out.row0) Try.underlying25 rfl size_ct) rfl ⟨⟨y, ar, ls, nx, pg⟩, rfl, below_setRow HD.out.bel (by rw [hg0]; exact Nat.le_refl _) _⟩
  by_cases e1 : k = 1
  · subst e1
    clear k0 k1
    go_wp2_with fail
    have hn1 := heap_alloc_new u1 (.cells #[.int .i64 (-1), .int .i64 2] 3)
    have b := Below.alloc1 u1 (.cells #[.int .i64 (-1), .int .i64 2] 3)
    have HC := fun i (hi : i < 2) => show ∃ x, (u1.alloc (.cells #[.int .i64 (-1), .int .i64 2] 3)).cell? ⟨u1.heap.size, i, none⟩ = some (.int .i64 x) by
      match i, hi with
      | 0, _ => exact ⟨(-1), by rw [cell_of_row _ _ _ _ _ _ hn1]; rfl⟩
      | 1, _ => exact ⟨2, by rw [cell_of_row _ _ _ _ _ _ hn1]; rfl⟩
    replace R := hid ((b.block q (Array.getElem?_eq_some_iff.1 R.out).1).trans R.out)
    have hne : u1.heap.size ≠ g := by have := HD.out.lt'; omega
    replace HD := hid (HD.out.below b)
    refine (l1PickInt HD.out.cur hn (by omega) (by omega) hne HC).mono ?_
    rintro e u2 ⟨y, rfl, c, gr⟩
    replace R := hid (show u2.heap[q]? = some (.cells #[.int .i64 sq, .int .i64 ar, .int .i64 ls, .int .i64 nx, .int .i64 pg] 25) by
      rw [gr.block q (Array.getElem?_eq_some_iff.1 R.out).1 (fun e => by have := HQ.out; cases e; omega)]; exact R.out)
    replace HD := hid (HD.out.grown c gr)
    clear c gr hn1 b HC hne
    have c1 : u2.cell? ⟨q, 1, none⟩ = some (.int .i64 ar) := by rw [cell_of_row _ _ _ _ _ _ R.out]; rfl
    have f1 : u2.frozen? ⟨q, 1, none⟩ = false := frozen_of_row _ _ _ _ _ R.out
    have R2 := heap_setCell_same u2 q 1 _ 25 (.int .i64 y) R.out
    replace HD := hid (HD.out.other (grown_cell17 u2 q 1 (.int .i64 y)) HQ.out)
    replace R := hid (show (u2.setCell ⟨q, 1, none⟩ (.int .i64 y)).heap[q]? = some (.cells #[.int .i64 sq, .int .i64 y, .int .i64 ls, .int .i64 nx, .int .i64 pg] 25) from R2)
    clear R2
    go_wp2_with (first
      | (refine wpList_load_row rfl 25 (.tmp 4) rfl q rfl 25 _ (0, 0) _ R.out Try.underlying25 rfl size_ct ?_)
      | (refine wpList_store_row rfl 25 (.tmp 2) (.tmp 53) rfl g0 #[.int .i64 sq, .int .i64 y, .int .i64 ls, .int .i64 nx, .int .i64 pg] rfl rfl 25 _ HD.out.row0 ?u7 ?u8 ?u9 ?_))
    case u7 => exact size_ct
    case u8 => rfl
    case u9 => simp [Value.oneCell']
    exact bodyPost_ret (results_cell_row Try.results7 _ _ g0 25 #[.int .i64 sq, .int .i64 y, .int .i64 ls, .int .i64 nx, .int .i64 pg] (0, 0) _ rfl (setRow_heap _ _ _ _ _ _ HD.out.row0) Try.underlying25 rfl size_ct) rfl ⟨⟨sq, y, ls, nx, pg⟩, rfl, below_setRow HD.out.bel (by rw [hg0]; exact Nat.le_refl _) _⟩
  by_cases e2 : k = 2
  · subst e2
    clear k0 k1
    go_wp2_with fail
    have hn1 := heap_alloc_new u1 (.cells #[.int .i64 0, .int .i64 1000000, .int .i64 1000001] 3)
    have b := Below.alloc1 u1 (.cells #[.int .i64 0, .int .i64 1000000, .int .i64 1000001] 3)
    have HC := fun i (hi : i < 3) => show ∃ x, (u1.alloc (.cells #[.int .i64 0, .int .i64 1000000, .int .i64 1000001] 3)).cell? ⟨u1.heap.size, i, none⟩ = some (.int .i64 x) by
      match i, hi with
      | 0, _ => exact ⟨0, by rw [cell_of_row _ _ _ _ _ _ hn1]; rfl⟩
      | 1, _ => exact ⟨1000000, by rw [cell_of_row _ _ _ _ _ _ hn1]; rfl⟩
      | 2, _ => exact ⟨1000001, by rw [cell_of_row _ _ _ _ _ _ hn1]; rfl⟩
    replace R := hid ((b.block q (Array.getElem?_eq_some_iff.1 R.out).1).trans R.out)
    have hne : u1.heap.size ≠ g := by have := HD.out.lt'; omega
    replace HD := hid (HD.out.below b)
    refine (l1PickInt HD.out.cur hn (by omega) (by omega) hne HC).mono ?_
    rintro e u2 ⟨y, rfl, c, gr⟩
    replace R := hid (show u2.heap[q]? = some (.cells #[.int .i64 sq, .int .i64 ar, .int .i64 ls, .int .i64 nx, .int .i64 pg] 25) by
      rw [gr.block q (Array.getElem?_eq_some_iff.1 R.out).1 (fun e => by have := HQ.out; cases e; omega)]; exact R.out)
    replace HD := hid (HD.out.grown c gr)
    clear c gr hn1 b HC hne
    have c1 : u2.cell? ⟨q, 2, none⟩ = some (.int .i64 ls) := by rw [cell_of_row _ _ _ _ _ _ R.out]; rfl
    have f1 : u2.frozen? ⟨q, 2, none⟩ = false := frozen_of_row _ _ _ _ _ R.out
    have R2 := heap_setCell_same u2 q 2 _ 25 (.int .i64 y) R.out
    replace HD := hid (HD.out.other (grown_cell17 u2 q 2 (.int .i64 y)) HQ.out)
    replace R := hid (show (u2.setCell ⟨q, 2, none⟩ (.int .i64 y)).heap[q]? = some (.cells #[.int .i64 sq, .int .i64 ar, .int .i64 y, .int .i64 nx, .int .i64 pg] 25) from R2)
    clear R2
    go_wp2_with (first
      | (refine wpList_load_row rfl 25 (.tmp 4) rfl q rfl 25 _ (0, 0) _ R.out Try.underlying25 rfl size_ct ?_)
      | (refine wpList_store_row rfl 25 (.tmp 2) (.tmp 53) rfl g0 #[.int .i64 sq, .int .i64 ar, .int .i64 y, .int .i64 nx, .int .i64 pg] rfl rfl 25 _ HD.out.row0 ?u7 ?u8 ?u9 ?_))
    case u7 => exact size_ct
    case u8 => rfl
    case u9 => simp [Value.oneCell']
    exact bodyPost_ret (results_cell_row Try.results7 _ _ g0 25 #[.int .i64 sq, .int .i64 ar, .int .i64 y, .int .i64 nx, .int .i64 pg] (0, 0) _ rfl (setRow_heap _ _ _ _ _ _ HD.out.row0) Try.underlying25 rfl size_ct) rfl ⟨⟨sq, ar, y, nx, pg⟩, rfl, below_setRow HD.out.bel (by rw [hg0]; exact Nat.le_refl _) _⟩
  by_cases e3 : k = 3
  · subst e3
    clear k0 k1
    go_wp2_with fail
    have hn1 := heap_alloc_new u1 (.cells #[.int .i64 0, .int .i64 401, .int .i64 402] 3)
    have b := Below.alloc1 u1 (.cells #[.int .i64 0, .int .i64 401, .int .i64 402] 3)
    have HC := fun i (hi : i < 3) => show ∃ x, (u1.alloc (.cells #[.int .i64 0, .int .i64 401, .int .i64 402] 3)).cell? ⟨u1.heap.size, i, none⟩ = some (.int .i64 x) by
      match i, hi with
      | 0, _ => exact ⟨0, by rw [cell_of_row _ _ _ _ _ _ hn1]; rfl⟩
      | 1, _ => exact ⟨401, by rw [cell_of_row _ _ _ _ _ _ hn1]; rfl⟩
      | 2, _ => exact ⟨402, by rw [cell_of_row _ _ _ _ _ _ hn1]; rfl⟩
    replace R := hid ((b.block q (Array.getElem?_eq_some_iff.1 R.out).1).trans R.out)
    have hne : u1.heap.size ≠ g := by have := HD.out.lt'; omega
    replace HD := hid (HD.out.below b)
    refine (l1PickInt HD.out.cur hn (by omega) (by omega) hne HC).mono ?_
    rintro e u2 ⟨y, rfl, c, gr⟩
    replace R := hid (show u2.heap[q]? = some (.cells #[.int .i64 sq, .int .i64 ar, .int .i64 ls, .int .i64 nx, .int .i64 pg] 25) by
      rw [gr.block q (Array.getElem?_eq_some_iff.1 R.out).1 (fun e => by have := HQ.out; cases e; omega)]; exact R.out)
    replace HD := hid (HD.out.grown c gr)
    clear c gr hn1 b HC hne
    have c1 : u2.cell? ⟨q, 3, none⟩ = some (.int .i64 nx) := by rw [cell_of_row _ _ _ _ _ _ R.out]; rfl
    have f1 : u2.frozen? ⟨q, 3, none⟩ = false := frozen_of_row _ _ _ _ _ R.out
    have R2 := heap_setCell_same u2 q 3 _ 25 (.int .i64 y) R.out
    replace HD := hid (HD.out.other (grown_cell17 u2 q 3 (.int .i64 y)) HQ.out)
    replace R := hid (show (u2.setCell ⟨q, 3, none⟩ (.int .i64 y)).heap[q]? = some (.cells #[.int .i64 sq, .int .i64 ar, .int .i64 ls, .int .i64 y, .int .i64 pg] 25) from R2)
    clear R2
    go_wp2_with (first
      | (refine wpList_load_row rfl 25 (.tmp 4) rfl q rfl 25 _ (0, 0) _ R.out Try.underlying25 rfl size_ct ?_)
      | (refine wpList_store_row rfl 25 (.tmp 2) (.tmp 53) rfl g0 #[.int .i64 sq, .int .i64 ar, .int .i64 ls, .int .i64 y, .int .i64 pg] rfl rfl 25 _ HD.out.row0 ?u7 ?u8 ?u9 ?_))
    case u7 => exact size_ct
    case u8 => rfl
    case u9 => simp [Value.oneCell']
    exact bodyPost_ret (results_cell_row Try.results7 _ _ g0 25 #[.int .i64 sq, .int .i64 ar, .int .i64 ls, .int .i64 y, .int .i64 pg] (0, 0) _ rfl (setRow_heap _ _ _ _ _ _ HD.out.row0) Try.underlying25 rfl size_ct) rfl ⟨⟨sq, ar, ls, y, pg⟩, rfl, below_setRow HD.out.bel (by rw [hg0]; exact Nat.le_refl _) _⟩
  by_cases e4 : k = 4
  · subst e4
    clear k0 k1
    go_wp2_with fail
    have hn1 := heap_alloc_new u1 (.cells #[.int .i64 (-1), .int .i64 16, .int .i64 17] 3)
    have b := Below.alloc1 u1 (.cells #[.int .i64 (-1), .int .i64 16, .int .i64 17] 3)
    have HC := fun i (hi : i < 3) => show ∃ x, (u1.alloc (.cells #[.int .i64 (-1), .int .i64 16, .int .i64 17] 3)).cell? ⟨u1.heap.size, i, none⟩ = some (.int .i64 x) by
      match i, hi with
      | 0, _ => exact ⟨(-1), by rw [cell_of_row _ _ _ _ _ _ hn1]; rfl⟩
      | 1, _ => exact ⟨16, by rw [cell_of_row _ _ _ _ _ _ hn1]; rfl⟩
      | 2, _ => exact ⟨17, by rw [cell_of_row _ _ _ _ _ _ hn1]; rfl⟩
    replace R := hid ((b.block q (Array.getElem?_eq_some_iff.1 R.out).1).trans R.out)
    have hne : u1.heap.size ≠ g := by have := HD.out.lt'; omega
    replace HD := hid (HD.out.below b)
    refine (l1PickInt HD.out.cur hn (by omega) (by omega) hne HC).mono ?_
    rintro e u2 ⟨y, rfl, c, gr⟩
    replace R := hid (show u2.heap[q]? = some (.cells #[.int .i64 sq, .int .i64 ar, .int .i64 ls, .int .i64 nx, .int .i64 pg] 25) by
      rw [gr.block q (Array.getElem?_eq_some_iff.1 R.out).1 (fun e => by have := HQ.out; cases e; omega)]; exact R.out)
    replace HD := hid (HD.out.grown c gr)
    clear c gr hn1 b HC hne
    have c1 : u2.cell? ⟨q, 4, none⟩ = some (.int .i64 pg) := by rw [cell_of_row _ _ _ _ _ _ R.out]; rfl
    have f1 : u2.frozen? ⟨q, 4, none⟩ = false := frozen_of_row _ _ _ _ _ R.out
    have R2 := heap_setCell_same u2 q 4 _ 25 (.int .i64 y) R.out
    replace HD := hid (HD.out.other (grown_cell17 u2 q 4 (.int .i64 y)) HQ.out)
    replace R := hid (show (u2.setCell ⟨q, 4, none⟩ (.int .i64 y)).heap[q]? = some (.cells #[.int .i64 sq, .int .i64 ar, .int .i64 ls, .int .i64 nx, .int .i64 y] 25) from R2)
    clear R2
    go_wp2_with (first
      | (refine wpList_load_row rfl 25 (.tmp 4) rfl q rfl 25 _ (0, 0) _ R.out Try.underlying25 rfl size_ct ?_)
      | (refine wpList_store_row rfl 25 (.tmp 2) (.tmp 53) rfl g0 #[.int .i64 sq, .int .i64 ar, .int .i64 ls, .int .i64 nx, .int .i64 y] rfl rfl 25 _ HD.out.row0 ?u7 ?u8 ?u9 ?_))
    case u7 => exact size_ct
    case u8 => rfl
    case u9 => simp [Value.oneCell']
    exact bodyPost_ret (results_cell_row Try.results7 _ _ g0 25 #[.int .i64 sq, .int .i64 ar, .int .i64 ls, .int .i64 nx, .int .i64 y] (0, 0) _ rfl (setRow_heap _ _ _ _ _ _ HD.out.row0) Try.underlying25 rfl size_ct) rfl ⟨⟨sq, ar, ls, nx, y⟩, rfl, below_setRow HD.out.bel (by rw [hg0]; exact Nat.le_refl _) _⟩
  have n0 : ¬ k = 0 := e0
  have n1 : ¬ k = 1 := e1
  have n2 : ¬ k = 2 := e2
  have n3 : ¬ k = 3 := e3
  have n4 : ¬ k = 4 := e4
  go_wp2_with (first
    | (refine wpList_load_row rfl 25 (.tmp 4) rfl q rfl 25 _ (0, 0) _ R.out Try.underlying25 rfl size_ct ?_)
    | (refine wpList_store_row rfl 25 (.tmp 2) (.tmp 53) rfl g0 #[.int .i64 sq, .int .i64 ar, .int .i64 ls, .int .i64 nx, .int .i64 pg] rfl rfl 25 _ HD.out.row0 ?u7 ?u8 ?u9 ?_))
  case u7 => exact size_ct
  case u8 => rfl
  case u9 => simp [Value.oneCell']
  exact bodyPost_ret (results_cell_row Try.results7 _ _ g0 25 #[.int .i64 sq, .int .i64 ar, .int .i64 ls, .int .i64 nx, .int .i64 pg] (0, 0) _ rfl (setRow_heap _ _ _ _ _ _ HD.out.row0) Try.underlying25 rfl size_ct) rfl ⟨⟨sq, ar, ls, nx, pg⟩, rfl, below_setRow HD.out.bel (by rw [hg0]; exact Nat.le_refl _) _⟩
end Go.Proofs.Ytplbejipkaionaa
