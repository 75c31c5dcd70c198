/- The draw of a snapshot (l9snap). For codes of at most 2^21 bytes. -/
import Derived.Test.YtemhmlikfiknlaaDq8
import Derived.Test.YtemhmlikfiknlaaNo9
import Derived.Test.YtemhmlikfiknlaaOty
import Derived.Test.YtemhmlikfiknlaaXf9
namespace Go.Proofs.Ytemhmlikfiknlaa
open Go.RowKit
set_option maxRecDepth 100000

/-- A snapshot that is being drawn: in its box at p, the answer's box at w0's end, the list a row of its own, the cursor going on. -/
structure SnS (w0 w : World) (g p : Nat) (ad : Option Addr) (n cap : Nat) (zs : List Int) (S : Int) (a : Option Addr) (m c : Nat) (L : List Int) : Prop where
  box : w.heap[p]? = some (.cells #[.int .i64 S, .slice a m c] 32 (0, 0))
  res : w.heap[w0.heap.size]? = some (.cells #[.int .i64 0, .slice none 0 0] 32 (0, 0))
  own : w.ownsRow w0.heap.size 3 1 (.slice a m c) m (ins L)
  bd : bdI L
  cur : Cur w g ad n cap zs
  grown : w0.grownBy w (some g)
  pn : w0.heap.size < p
  gn : g < w0.heap.size
variable {w0 w w' : World} {g p : Nat} {ad : Option Addr} {n cap : Nat} {zs : List Int} {S : Int} {a : Option Addr} {m c : Nat} {L : List Int}
theorem SnS.plt (h : SnS w0 w g p ad n cap zs S a m c L) : p < w.heap.size := (Array.getElem?_eq_some_iff.1 h.box).1
theorem SnS.draw (h : SnS w0 w g p ad n cap zs S a m c L) (k : w.grownBy w' (some g)) (hc : Cur w' g ad n cap zs) : SnS w0 w' g p ad n cap zs S a m c L := by
  have hp := h.plt
  have h1 := h.pn
  have h2 := h.gn
  exact ⟨(k.block p hp (by intro e; cases e; omega)).trans h.box, (k.block _ (by omega) (by intro e; cases e; omega)).trans h.res, own_other h.own k (own_blk h.own h2), h.bd, hc, grown_trans h.grown k, h1, h2⟩
theorem SnS.alloc (h : SnS w0 w g p ad n cap zs S a m c L) (o : Obj) : SnS w0 (w.alloc o) g p ad n cap zs S a m c L := by
  have hp := h.plt
  have h1 := h.pn
  exact ⟨(alloc_old _ _ _ hp).trans h.box, (alloc_old _ _ _ (by omega)).trans h.res, h.own.alloc _, h.bd, h.cur.alloc _, grown_new h.grown (World.grownBy_alloc w o none) (fun r hr => by cases hr), h1, h.gn⟩
/-- A row has been appended to, its slice stored into the box. -/
theorem SnS.app (h : SnS w0 w g p ad n cap zs S a m c L) {row : Option Nat} (k : w.grownBy w' row) (hr : ∀ r, row = some r → w0.heap.size ≤ r ∧ r ≠ p ∧ r ≠ w0.heap.size) {a' : Option Addr} {m' c' : Nat} {L' : List Int} (o : w'.ownsRow w0.heap.size 3 1 (.slice a' m' c') m' (ins L')) (hd : bdI L') :
    SnS w0 (w'.setCell ⟨p, 1, none⟩ (.slice a' m' c')) g p ad n cap zs S a' m' c' L' := by
  have hp := h.plt
  have h1 := h.pn
  have h2 := h.gn
  have B1 : w'.heap[p]? = _ := (k.block p hp (by intro e; exact (hr p e.symm).2.1 rfl)).trans h.box
  have B2 : w'.heap[w0.heap.size]? = _ := (k.block _ (by omega) (by intro e; exact (hr _ e.symm).2.2 rfl)).trans h.res
  have c1 : Cur w' g ad n cap zs := h.cur.other k (fun r hr2 => by have := (hr r hr2).1; omega)
  have g1 : w0.grownBy w' (some g) := grown_new h.grown k (fun r hr2 => (hr r hr2).1)
  have gs := grown_setCell w' p 1 (.slice a' m' c')
  refine ⟨?_, ?_, ?_, hd, c1.other gs (fun r hr2 => by cases hr2; omega), grown_new g1 gs (fun r hr2 => by cases hr2; omega), h1, h2⟩
  · rw [heap_setCell_same w' p 1 _ 32 _ B1]; rfl
  · rw [heap_setCell_other w' ⟨p, 1, none⟩ _ _ (by simp; omega)]; exact B2
  · refine own_other o gs ?_
    intro r hr2 e
    cases e
    rcases oty_ne o B1 (by decide) with e | e
    · rw [e] at hr2; cases hr2
    · exact e hr2
theorem SnS.self (h : SnS w0 w g p ad n cap zs S a m c L) (x : Int) : SnS w0 (w.setCell ⟨p, 0, none⟩ (.int .i64 x)) g p ad n cap zs x a m c L := by
  have h1 := h.pn
  have h2 := h.gn
  have gs := grown_setCell w p 0 (.int .i64 x)
  refine ⟨?_, ?_, ?_, h.bd, h.cur.other gs (fun r hr2 => by cases hr2; omega), grown_new h.grown gs (fun r hr2 => by cases hr2; omega), h1, h2⟩
  · rw [heap_setCell_same w p 0 _ 32 _ h.box]; rfl
  · rw [heap_setCell_other w ⟨p, 0, none⟩ _ _ (by simp; omega)]; exact h.res
  · refine own_other h.own gs ?_
    intro r hr2 e
    cases e
    rcases oty_ne h.own h.box (by decide) with e | e
    · rw [e] at hr2; cases hr2
    · exact e hr2
theorem SnS.row (h : SnS w0 w g p ad n cap zs S a m c L) : ∀ r, (Value.slice a m c).ownBlock = some r → w0.heap.size ≤ r ∧ r ≠ p ∧ r ≠ w0.heap.size := by
  intro r hr
  refine ⟨(h.own.lt r hr).1, ?_, ?_⟩
  · rintro rfl
    rcases oty_ne h.own h.box (by decide) with e | e
    · rw [e] at hr; cases hr
    · exact e hr
  · rintro rfl
    rcases oty_ne h.own h.res (by decide) with e | e
    · rw [e] at hr; cases hr
    · exact e hr
theorem SnS.cells (h : SnS w0 w g p ad n cap zs S a m c L) : w.cell? ⟨p, 0, none⟩ = some (.int .i64 S) ∧ w.cell? ⟨p, 1, none⟩ = some (.slice a m c) ∧ w.frozen? ⟨p, 0, none⟩ = false ∧ w.frozen? ⟨p, 1, none⟩ = false := by
  refine ⟨?_, ?_, frozen_of_row _ _ _ _ _ h.box, frozen_of_row _ _ _ _ _ h.box⟩
  · rw [cell_of_row _ _ _ _ _ _ h.box]; rfl
  · rw [cell_of_row _ _ _ _ _ _ h.box]; rfl

theorem bdI.cons {L : List Int} {y : Int} (hb : bdI L) (h0 : -9223372036854775808 ≤ y) (h1 : y ≤ 9223372036854775807) : bdI (y :: L) := by
  intro i
  cases i with
  | zero => exact ⟨h0, h1⟩
  | succ i => exact hb i
set_option maxHeartbeats 1600000 in
theorem l1Pick9 {w : World} {g : Nat} {ad : Option Addr} {n cap : Nat} {zs : List Int} (c : Cur w g ad n cap zs) (hn : n ≤ 2097152) {b m c' : Nat} (hm : 0 < m) (hm' : m ≤ 1000) (hb : b ≠ g) (hc : ∀ i, i < m → ∃ x, w.cell? ⟨b, i, none⟩ = some (.int .i64 x) ∧ -1 ≤ x ∧ x ≤ 402) :
    Calls Try.prog 33 #[.pointer (some ⟨g, 0, none⟩), .slice (some ⟨b, 0, none⟩) m c'] w fun e w' => ∃ x : Int, e = .returned (.int .i64 x) ∧ (-1 ≤ x ∧ x ≤ 402) ∧ Cur w' g ad n cap zs ∧ w.grownBy w' (some g) := by
  have HC := hid hc
  clear hc
  go_enter Try.func33, Try.ntmps33
  go_wp2_with fail
  refine (l1Below c hn (m : Int) (by omega) (by omega)).mono ?_
  rintro e w1 ⟨x, rfl, hx0, hx1, c1, g1⟩
  obtain ⟨x, rfl⟩ := Int.eq_ofNat_of_zero_le hx0
  obtain ⟨y, hy, hy1⟩ := HC.out x (by omega)
  have hy' := g1.cell hy (by simpa using hb)
  have HY := hid hy1
  clear hy hy1
  go_wp2_with fail
  go_ret
  exact ⟨_, rfl, HY.out, c1, g1⟩
theorem grown_setRow9 (w : World) (g : Nat) (cs : Array Value) : w.grownBy (w.setRow g cs) (some g) := ⟨rfl, rfl, rfl, by simp [World.setRow], fun k _ hk => setRow_other w g k cs (fun e => hk (by rw [e]))⟩
theorem SnS.own_res (h : SnS w0 w g p ad n cap zs S a m c L) {cs : Array Value} : (w.setRow w0.heap.size cs).ownsRow w0.heap.size 3 1 (.slice a m c) m (ins L) :=
  own_other h.own (grown_setRow9 w _ cs) (fun r hr e => by cases e; exact (h.row _ hr).2.2 rfl)
theorem SnS.cur_res (h : SnS w0 w g p ad n cap zs S a m c L) {cs : Array Value} : Cur (w.setRow w0.heap.size cs) g ad n cap zs := h.cur.other (grown_setRow9 w _ cs) (fun r hr => by cases hr; exact h.gn)
theorem SnS.grown_res (h : SnS w0 w g p ad n cap zs S a m c L) {cs : Array Value} : w0.grownBy (w.setRow w0.heap.size cs) (some g) := grown_new h.grown (grown_setRow9 w _ cs) (fun r hr => by cases hr; exact Nat.le_refl _)
theorem SnS.slt (h : SnS w0 w g p ad n cap zs S a m c L) : w0.heap.size < w.heap.size := by have := h.plt; have := h.pn; omega

set_option maxHeartbeats 3200000 in
theorem l9snap {w : World} {g : Nat} {ad : Option Addr} {n cap : Nat} {zs : List Int} (c : Cur w g ad n cap zs) (hn : n ≤ 2097152) :
    Calls Try.prog 32 #[.pointer (some ⟨g, 0, none⟩)] w fun e w' => ∃ (S : Int) (a1 : Option Addr) (m1 c1 : Nat) (L : List Int), e = .returned (.agg #[.int .i64 S, .slice a1 m1 c1]) ∧ w'.ownsRow w.heap.size 3 1 (.slice a1 m1 c1) m1 (ins L) ∧ bdI L ∧ m1 ≤ 20 ∧ (-1 ≤ S ∧ S ≤ 402) ∧ Cur w' g ad n cap zs ∧ w.grownBy w' (some g) := by
  obtain ⟨i0, hi, hz0, hz1, hz2⟩ := info_parts Try.infoI
  have hgl : g < w.heap.size := c.lt
  have R0 := hid (heap_alloc_new w (.cells #[.int .i64 0, .slice none 0 0] 32))
  have Z0 := hid (alloc_size w (.cells #[.int .i64 0, .slice none 0 0] 32))
  have C0 := hid (c.alloc (.cells #[.int .i64 0, .slice none 0 0] 32))
  have G0 := hid (World.grownBy_alloc w (.cells #[.int .i64 0, .slice none 0 0] 32) (some g))
  clear c
  go_enter Try.func32, Try.ntmps32
  go_wp2_with fail
  refine (l1Below C0.out hn _ (by omega) (by omega)).mono ?_
  rintro e w1 ⟨x, rfl, hx0, hx1, c1, g1⟩
  obtain ⟨x, rfl⟩ := Int.eq_ofNat_of_zero_le hx0
  have hz : w.heap.size < w1.heap.size := by have := g1.size; rw [Z0.out] at this; omega
  have HS := hid (show SnS w (w1.alloc (.cells #[.int .i64 (1 + (x : Int)), .slice none 0 0] 32)) g w1.heap.size ad n cap zs (1 + (x : Int)) none 0 0 [] from
    ⟨heap_alloc_new w1 _, (alloc_old _ _ _ hz).trans ((g1.block _ (by rw [Z0.out]; omega) (by intro e; cases e; omega)).trans R0.out), World.ownsRow_nil _ _ _ _, bdI.nil, c1.alloc _, grown_new (grown_trans G0.out g1) (World.grownBy_alloc w1 _ none) (fun r hr => by cases hr), hz, hgl⟩)
  clear c1 g1 C0 G0 R0 Z0
  go_wp2_with fail
  generalize w1.alloc (.cells #[.int .i64 (1 + (x : Int)), .slice none 0 0] 32) = W at *
  generalize w1.heap.size = p at *
  obtain ⟨S, hS⟩ : ∃ S : Int, 1 + (x : Int) = S := ⟨_, rfl⟩
  rw [hS] at HS
  have hS1 : 1 ≤ S ∧ S ≤ 10 := by omega
  clear hS
  go_loopw [4] (fun i wr => ∃ (k m c2 : Nat) (a : Option Addr) (L : List Int), i = .int .i64 k ∧ 1 ≤ k ∧ m < k ∧ k ≤ 10 ∧ Hid (SnS w wr g p ad n cap zs S a m c2 L)) (fun i _ => 20 - (intOf i).toNat)
  case atStart => exact ⟨1, 0, 0, none, [], rfl, by omega, by omega, by omega, HS⟩
  case round =>
    clear HS
    obtain ⟨k, m, c2, a, L, rfl, hk1, hmk, hk2, HS⟩ := hrel
    obtain ⟨q0, q1, f0, f1⟩ := HS.out.cells
    by_cases hlt : (k : Int) < S
    · go_wp2_with fail
      clear q0 q1 f0 f1
      refine (l1Once HS.out.cur hn 3 (by omega) (by omega)).mono ?_
      rintro e w2 ⟨once, rfl, c3, g3⟩
      replace HS := hid (HS.out.draw g3 c3)
      clear c3 g3
      cases once with
      | false =>
        go_wp2_with fail
        go_roundw
        case rel => exact ⟨k + 1, m, c2, a, L, by go_num, by omega, by omega, by omega, HS⟩
        case measure => simp [intOf]; omega
      | true =>
        have HA := hid (HS.out.alloc (.cells #[.int .i64 k] 3))
        obtain ⟨q0, q1, f0, f1⟩ := HS.out.cells
        have OW := hid HA.out.own
        go_wp2_with (at_builtin; refine wpList_append_row rfl _ _ 27 rfl w.heap.size 3 i0 (.int .i64 0) 1 8 Try.underlying27 hi hz0 hz1 hz2 rfl (by decide) _ _ _ rfl OW.out (some ⟨w2.heap.size, 0, none⟩) 1 1 [.int .i64 k] rfl rfl (.inr ⟨_, rfl, World.news_of_block (heap_alloc_new w2 _)⟩) (fun e => by cases e) (by intro u hu; simp at hu; subst hu; rfl) (by unfold maxLen; omega) (by omega) (by have := HS.out.grown.size; simp; omega) ?_)
        intro a5 c5 w5 o gA
        have HN := hid (HA.out.app gA HA.out.row (L' := L ++ [(k : Int)]) (by rw [ins_append]; exact o) (HS.out.bd.snoc (by omega) (by omega)))
        have r0 := (gA.block p HA.out.plt (by intro e; exact (HA.out.row p e.symm).2.1 rfl)).trans HA.out.box
        have f5 : w5.frozen? ⟨p, 1, none⟩ = false := frozen_of_row _ _ _ _ _ r0
        have q5 : w5.cell? ⟨p, 1, none⟩ = some (.slice a m c2) := by rw [cell_of_row _ _ _ _ _ _ r0]; rfl
        clear o gA HA q0 q1 f0 f1 OW r0
        go_wp2_with fail
        clear f5 q5
        go_roundw
        case rel => exact ⟨k + 1, m + 1, c5, a5, L ++ [(k : Int)], by go_num, by omega, by omega, by omega, HN⟩
        case measure => simp [intOf]; omega
    · go_wp2_with fail
      clear q0 q1 f0 f1
      refine (l1Below HS.out.cur hn 20 (by omega) (by omega)).mono ?_
      rintro e w2 ⟨y, rfl, hy0, hy1, c3, g3⟩
      replace HS := hid (HS.out.draw g3 c3)
      clear c3 g3
      rcases (show y = 0 ∨ y = 1 ∨ y = 2 ∨ y = 3 ∨ 3 < y by omega) with rfl | rfl | rfl | rfl | hy
      · have HA := hid (HS.out.alloc (.cells #[.int .i64 0, .int .i64 (-1), .int .i64 400, .int .i64 401] 3))
        have PC := hid (heap_alloc_new w2 (.cells #[.int .i64 0, .int .i64 (-1), .int .i64 400, .int .i64 401] 3))
        have hw2 := HS.out.slt
        go_wp2_with fail
        refine (l1Pick9 (b := w2.heap.size) (m := 4) HA.out.cur hn (by omega) (by omega) (by have := HS.out.gn; omega) (fun i hi => ?_)).mono ?_
        · have hcell := cell_of_row _ _ i _ _ _ PC.out
          rcases (show i = 0 ∨ i = 1 ∨ i = 2 ∨ i = 3 by omega) with rfl | rfl | rfl | rfl
          · exact ⟨0, by rw [hcell]; rfl, by omega, by omega⟩
          · exact ⟨-1, by rw [hcell]; rfl, by omega, by omega⟩
          · exact ⟨400, by rw [hcell]; rfl, by omega, by omega⟩
          · exact ⟨401, by rw [hcell]; rfl, by omega, by omega⟩
        rintro e w4 ⟨z, rfl, hz, c4, g4⟩
        replace HS := hid (HA.out.draw g4 c4)
        clear c4 g4 PC HA hw2
        obtain ⟨q0, q1, f0, f1⟩ := HS.out.cells
        have HN := hid (HS.out.self z)
        have RB := hid HN.out.box
        have RS := hid HN.out.res
        go_wp2_with (first
          | (refine wpList_load_row rfl 32 (.tmp 3) rfl p rfl 32 _ (0, 0) _ RB.out Try.underlying32 rfl sizeSn ?_)
          | (refine wpList_store_row rfl 32 (.tmp 2) (.tmp 54) rfl w.heap.size #[.int .i64 z, .slice a (m) c2] rfl rfl 32 _ RS.out sizeSn rfl (by simp [Value.oneCell']) ?_))
        exact bodyPost_ret (results_cell_row Try.results32 _ _ w.heap.size 32 #[.int .i64 z, .slice a (m) c2] (0, 0) _ rfl (setRow_heap _ _ _ _ _ _ RS.out) Try.underlying32 rfl sizeSn) rfl ⟨z, a, m, c2, L, rfl, HN.out.own_res, HN.out.bd, by omega, by omega, HN.out.cur_res, HN.out.grown_res⟩
      · have hSb : -9223372036854775808 ≤ S ∧ S ≤ 9223372036854775807 := by omega
        have HA := hid (HS.out.alloc (.cells #[.int .i64 S] 3))
        obtain ⟨q0, q1, f0, f1⟩ := HS.out.cells
        have OW := hid HA.out.own
        go_wp2_with (at_builtin; refine wpList_append_row rfl _ _ 27 rfl w.heap.size 3 i0 (.int .i64 0) 1 8 Try.underlying27 hi hz0 hz1 hz2 rfl (by decide) _ _ _ rfl OW.out (some ⟨w2.heap.size, 0, none⟩) 1 1 [.int .i64 S] rfl rfl (.inr ⟨_, rfl, World.news_of_block (heap_alloc_new w2 _)⟩) (fun e => by cases e) (by intro u hu; simp at hu; subst hu; rfl) (by unfold maxLen; omega) (by omega) (by have := HS.out.grown.size; simp; omega) ?_)
        intro a5 c5 w5 o gA
        have HN := hid (HA.out.app gA HA.out.row (L' := L ++ [S]) (by rw [ins_append]; exact o) (HS.out.bd.snoc (by omega) (by omega)))
        have r0 := (gA.block p HA.out.plt (by intro e; exact (HA.out.row p e.symm).2.1 rfl)).trans HA.out.box
        have f5 : w5.frozen? ⟨p, 1, none⟩ = false := frozen_of_row _ _ _ _ _ r0
        have q5 : w5.cell? ⟨p, 1, none⟩ = some (.slice a m c2) := by rw [cell_of_row _ _ _ _ _ _ r0]; rfl
        clear o gA HA q0 q1 f0 f1 OW r0
        have RB := hid HN.out.box
        have RS := hid HN.out.res
        go_wp2_with (first
          | (refine wpList_load_row rfl 32 (.tmp 3) rfl p rfl 32 _ (0, 0) _ RB.out Try.underlying32 rfl sizeSn ?_)
          | (refine wpList_store_row rfl 32 (.tmp 2) (.tmp 54) rfl w.heap.size #[.int .i64 S, .slice a5 (m + 1) c5] rfl rfl 32 _ RS.out sizeSn rfl (by simp [Value.oneCell']) ?_))
        exact bodyPost_ret (results_cell_row Try.results32 _ _ w.heap.size 32 #[.int .i64 S, .slice a5 (m + 1) c5] (0, 0) _ rfl (setRow_heap _ _ _ _ _ _ RS.out) Try.underlying32 rfl sizeSn) rfl ⟨S, a5, m + 1, c5, L ++ [S], rfl, HN.out.own_res, HN.out.bd, by omega, by omega, HN.out.cur_res, HN.out.grown_res⟩
      · skip
        have HA := hid (HS.out.alloc (.cells #[.int .i64 2] 3))
        have HRL := hid (reads_own9 HA.out.own HA.out.bd)
        have HNC := hid (own_nc HA.out.own)
        obtain ⟨q0, q1, f0, f1⟩ := HA.out.cells
        have OE := hid (own_row8 (base := w.heap.size) (n := 1) (xs := [.int .i64 2]) (heap_alloc_new w2 (.cells #[.int .i64 2] 3)) rfl (by unfold maxLen; omega) (by have := HS.out.slt; omega))
        go_wp2_with (at_builtin; refine wpList_append_row rfl _ _ 27 rfl w.heap.size 3 i0 (.int .i64 0) 1 8 Try.underlying27 hi hz0 hz1 hz2 rfl (by decide) _ _ _ rfl OE.out a m c2 (ins L) rfl ?b1 ?b7 ?b5 (ins_one _) ?b3 ?b4 ?b6 ?_)
        case b1 => rw [ins_length, HRL.out.len, Nat.mul_one]
        case b7 =>
          rcases hx : a with _ | pp
          · exact .inl ⟨rfl, HNC.out hx⟩
          · refine .inr ⟨pp, rfl, ?_⟩
            have r := HRL.out
            rw [hx] at r
            exact r.news
        case b5 =>
          intro e
          rcases HRL.out.cells with h0 | ⟨b, off, e1, _⟩
          · exact h0
          · rw [e] at e1; cases e1
        case b3 => unfold maxLen; omega
        case b4 => omega
        case b6 => have := HS.out.slt; simp; omega
        intro a5 c5 w5 o gA
        have hrow : ∀ r, (Value.slice (some ⟨w2.heap.size, 0, none⟩) 1 1).ownBlock = some r → w.heap.size ≤ r ∧ r ≠ p ∧ r ≠ w.heap.size := by
          intro r hr
          simp [Value.ownBlock] at hr
          have h1 := HS.out.slt
          have h2 := HS.out.plt
          omega
        have HN := hid (HA.out.app gA hrow (L' := 2 :: L) (by simpa [ins] using o) (HS.out.bd.cons (by omega) (by omega)))
        have r0 := (gA.block p HA.out.plt (by intro e; exact (hrow p e.symm).2.1 rfl)).trans HA.out.box
        have f5 : w5.frozen? ⟨p, 1, none⟩ = false := frozen_of_row _ _ _ _ _ r0
        have q5 : w5.cell? ⟨p, 1, none⟩ = some (.slice a m c2) := by rw [cell_of_row _ _ _ _ _ _ r0]; rfl
        clear o gA HA q0 q1 f0 f1 OE r0 HRL HNC hrow
        have RB := hid HN.out.box
        have RS := hid HN.out.res
        go_wp2_with (first
          | (refine wpList_load_row rfl 32 (.tmp 3) rfl p rfl 32 _ (0, 0) _ RB.out Try.underlying32 rfl sizeSn ?_)
          | (refine wpList_store_row rfl 32 (.tmp 2) (.tmp 54) rfl w.heap.size #[.int .i64 S, .slice a5 (1 + m) c5] rfl rfl 32 _ RS.out sizeSn rfl (by simp [Value.oneCell']) ?_))
        exact bodyPost_ret (results_cell_row Try.results32 _ _ w.heap.size 32 #[.int .i64 S, .slice a5 (1 + m) c5] (0, 0) _ rfl (setRow_heap _ _ _ _ _ _ RS.out) Try.underlying32 rfl sizeSn) rfl ⟨S, a5, 1 + m, c5, 2 :: L, rfl, HN.out.own_res, HN.out.bd, by omega, by omega, HN.out.cur_res, HN.out.grown_res⟩
      · skip
        have HA := hid (HS.out.alloc (.cells #[.int .i64 0] 3))
        have HRL := hid (reads_own9 HA.out.own HA.out.bd)
        have HNC := hid (own_nc HA.out.own)
        obtain ⟨q0, q1, f0, f1⟩ := HA.out.cells
        have OE := hid (own_row8 (base := w.heap.size) (n := 1) (xs := [.int .i64 0]) (heap_alloc_new w2 (.cells #[.int .i64 0] 3)) rfl (by unfold maxLen; omega) (by have := HS.out.slt; omega))
        go_wp2_with (at_builtin; refine wpList_append_row rfl _ _ 27 rfl w.heap.size 3 i0 (.int .i64 0) 1 8 Try.underlying27 hi hz0 hz1 hz2 rfl (by decide) _ _ _ rfl OE.out a m c2 (ins L) rfl ?b1 ?b7 ?b5 (ins_one _) ?b3 ?b4 ?b6 ?_)
        case b1 => rw [ins_length, HRL.out.len, Nat.mul_one]
        case b7 =>
          rcases hx : a with _ | pp
          · exact .inl ⟨rfl, HNC.out hx⟩
          · refine .inr ⟨pp, rfl, ?_⟩
            have r := HRL.out
            rw [hx] at r
            exact r.news
        case b5 =>
          intro e
          rcases HRL.out.cells with h0 | ⟨b, off, e1, _⟩
          · exact h0
          · rw [e] at e1; cases e1
        case b3 => unfold maxLen; omega
        case b4 => omega
        case b6 => have := HS.out.slt; simp; omega
        intro a5 c5 w5 o gA
        have hrow : ∀ r, (Value.slice (some ⟨w2.heap.size, 0, none⟩) 1 1).ownBlock = some r → w.heap.size ≤ r ∧ r ≠ p ∧ r ≠ w.heap.size := by
          intro r hr
          simp [Value.ownBlock] at hr
          have h1 := HS.out.slt
          have h2 := HS.out.plt
          omega
        have HN := hid (HA.out.app gA hrow (L' := 0 :: L) (by simpa [ins] using o) (HS.out.bd.cons (by omega) (by omega)))
        have r0 := (gA.block p HA.out.plt (by intro e; exact (hrow p e.symm).2.1 rfl)).trans HA.out.box
        have f5 : w5.frozen? ⟨p, 1, none⟩ = false := frozen_of_row _ _ _ _ _ r0
        have q5 : w5.cell? ⟨p, 1, none⟩ = some (.slice a m c2) := by rw [cell_of_row _ _ _ _ _ _ r0]; rfl
        clear o gA HA q0 q1 f0 f1 OE r0 HRL HNC hrow
        have RB := hid HN.out.box
        have RS := hid HN.out.res
        go_wp2_with (first
          | (refine wpList_load_row rfl 32 (.tmp 3) rfl p rfl 32 _ (0, 0) _ RB.out Try.underlying32 rfl sizeSn ?_)
          | (refine wpList_store_row rfl 32 (.tmp 2) (.tmp 54) rfl w.heap.size #[.int .i64 S, .slice a5 (1 + m) c5] rfl rfl 32 _ RS.out sizeSn rfl (by simp [Value.oneCell']) ?_))
        exact bodyPost_ret (results_cell_row Try.results32 _ _ w.heap.size 32 #[.int .i64 S, .slice a5 (1 + m) c5] (0, 0) _ rfl (setRow_heap _ _ _ _ _ _ RS.out) Try.underlying32 rfl sizeSn) rfl ⟨S, a5, 1 + m, c5, 0 :: L, rfl, HN.out.own_res, HN.out.bd, by omega, by omega, HN.out.cur_res, HN.out.grown_res⟩
      · have g1 : (y == 0) = false := by simp; omega
        have g2 : (y == 1) = false := by simp; omega
        have g3 : (y == 2) = false := by simp; omega
        have g4 : (y == 3) = false := by simp; omega
        have RB := hid HS.out.box
        have RS := hid HS.out.res
        go_wp2_with (first
          | (refine wpList_load_row rfl 32 (.tmp 3) rfl p rfl 32 _ (0, 0) _ RB.out Try.underlying32 rfl sizeSn ?_)
          | (refine wpList_store_row rfl 32 (.tmp 2) (.tmp 54) rfl w.heap.size #[.int .i64 S, .slice a (m) c2] rfl rfl 32 _ RS.out sizeSn rfl (by simp [Value.oneCell']) ?_))
        exact bodyPost_ret (results_cell_row Try.results32 _ _ w.heap.size 32 #[.int .i64 S, .slice a (m) c2] (0, 0) _ rfl (setRow_heap _ _ _ _ _ _ RS.out) Try.underlying32 rfl sizeSn) rfl ⟨S, a, m, c2, L, rfl, HS.out.own_res, HS.out.bd, by omega, by omega, HS.out.cur_res, HS.out.grown_res⟩
end Go.Proofs.Ytemhmlikfiknlaa
