/- Texts of this proof in one: D3v Rdi. -/
import Derived.Test.YtjcjoabblafboaaGreatMgo
import Derived.Test.YtjcjoabblafboaaGreatMgb
/- The contract of the draw of a value. For codes of at most 2^21 bytes. -/


namespace Go.Proofs.YtjcjoabblafboaaGreat
open Go.RowKit
set_option maxRecDepth 100000 in
set_option maxHeartbeats 12800000 in
theorem l3value {w : World} {g : Nat} {ad : Option Addr} {n cap : Nat} {zs : List Int} (c : Cur w g ad n cap zs) (hn : n ≤ 2097152) :
 Calls Tryz.prog 134 #[.pointer (some ⟨g, 0, none⟩)] w fun e w' => AnsI 1000 w g ad n cap zs e w' := by
 have hgl := c.lt
 go_enter Tryz.func134, Tryz.ntmps134
 go_wp2_with fail
 have c0 := c.alloc (.cells #[.int .i64 0, .int .i64 0, .float .f64 0, .slice none 0 0] 72)
 have G0 := hid (show w.grownBy (w.alloc (.cells #[.int .i64 0, .int .i64 0, .float .f64 0, .slice none 0 0] 72)) none from World.grownBy_alloc w _ none)
 have T0 := hid (heap_alloc_new w (.cells #[.int .i64 0, .int .i64 0, .float .f64 0, .slice none 0 0] 72))
 have Z0 := hid (show (w.alloc (.cells #[.int .i64 0, .int .i64 0, .float .f64 0, .slice none 0 0] 72)).heap.size = w.heap.size + 1 by simp)
 generalize w.alloc (.cells #[.int .i64 0, .int .i64 0, .float .f64 0, .slice none 0 0] 72) = U at *
 generalize hq0 : w.heap.size = q0 at *
 have HQ := hid hq0
 have hgu : g < U.heap.size := by have := Z0.out; omega
 clear c hq0
 refine (l1Below c0 hn 5 (by omega) (by omega)).mono ?_
 rintro e w1 ⟨t, rfl, ht0, ht1, c1, g1⟩
 clear c0
 by_cases t0 : t = 0
 · subst t0
   go_wp2_with fail
   refine (l1some2 c1 hn 8 (by omega) (by omega)).mono ?_
   rintro e w9 ⟨sv, SL, rfl, o9, bd9, hl9, -, c9, g9⟩
   obtain ⟨a9, q9, rfl⟩ : ∃ a c, sv = .slice a SL.length c := by
    rcases o9.2 with ⟨h1, h2⟩ | ⟨g', cap', cur, h1, _⟩
    · exact ⟨none, 0, by rw [h1, h2]⟩
    · exact ⟨_, _, h1⟩
   have O9 := hid (owns_lower o9 (g1).size)
   clear o9
   have FA := finI (M := 1000) G0.out HQ.out Z0.out T0.out hgl (grown_trans g1 g9) c9 O9.out bd9 hl9 (by omega) (by omega) (K := 3) (N := 0) (f := 0)
   have TQ := hid FA.1
   have AN := hid FA.2
   clear FA
   go_wp2_with (first
    | (refine wpList_store_row rfl 72 _ _ rfl q0 #[.int .i64 3, .int .i64 0, .float .f64 0, (.slice a9 SL.length q9)] rfl rfl 72 _ TQ.out ?s1x1 ?s2x1 ?s3x1 ?_))
   case s1x1 => simpa using sizeIt
   try case s2x1 => rfl
   case s3x1 => simp [Value.oneCell']
   refine bodyPost_ret (results_cell_row Tryz.results134 _ _ q0 72 #[.int .i64 3, .int .i64 0, .float .f64 0, (.slice a9 SL.length q9)] (0, 0) _ rfl (setRow_heap _ _ _ _ _ _ TQ.out) Tryz.underlying72 rfl sizeIt) rfl ?_
   exact AN.out
 by_cases t1 : t = 1
 · subst t1
   go_wp2_with fail
   refine (l2float c1 hn).mono ?_
   rintro e w3 ⟨z, rfl, hz, c3, g3⟩
   have G3 := grown_trans g1 g3
   have FA := finI (M := 1000) G0.out HQ.out Z0.out T0.out hgl G3 c3 (show w3.ownsRow U.heap.size 5 1 (.slice none 0 0) ([] : List Int).length (bys []) from World.ownsRow_nil _ _ _ _) (by simp) (by simp) (by omega) hz (K := 2) (N := 0) (f := z)
   have TQ := hid FA.1
   have AN := hid FA.2
   clear FA
   go_wp2_with (first
    | (refine wpList_store_row rfl 72 _ _ rfl q0 #[.int .i64 2, .int .i64 0, .float .f64 z, .slice none 0 0] rfl rfl 72 _ TQ.out ?s1x2 ?s2x2 ?s3x2 ?_))
   case s1x2 => simpa using sizeIt
   try case s2x2 => rfl
   case s3x2 => simp [Value.oneCell']
   refine bodyPost_ret (results_cell_row Tryz.results134 _ _ q0 72 #[.int .i64 2, .int .i64 0, .float .f64 z, .slice none 0 0] (0, 0) _ rfl (setRow_heap _ _ _ _ _ _ TQ.out) Tryz.underlying72 rfl sizeIt) rfl ?_
   exact AN.out
 by_cases t2 : t = 2
 · subst t2
   go_wp2_with fail
   refine (l1Below c1 hn 64 (by omega) (by omega)).mono ?_
   rintro e w2 ⟨y, rfl, hy0, hy1, c2, g2⟩
   obtain ⟨z, w7, hrun, hz, st⟩ := quo_run 70 (floatOfInt .f64 (y - 32)) 4616189618054758400 w2
   have c7 := c2.still st.out
   have g7 := grown_still (grown_trans g1 g2) st.out
   have FA := finI (M := 1000) G0.out HQ.out Z0.out T0.out hgl g7 c7 (show w7.ownsRow U.heap.size 5 1 (.slice none 0 0) ([] : List Int).length (bys []) from World.ownsRow_nil _ _ _ _) (by simp) (by simp) (by omega) hz (K := 2) (N := 0) (f := z)
   have TQ := hid FA.1
   have AN := hid FA.2
   clear FA
   go_wp2_with (first
    | (refine wpList_store_row rfl 72 _ _ rfl q0 #[.int .i64 2, .int .i64 0, .float .f64 z, .slice none 0 0] rfl rfl 72 _ TQ.out ?s1x3 ?s2x3 ?s3x3 ?_))
   case s1x3 => simpa using sizeIt
   try case s2x3 => rfl
   case s3x3 => simp [Value.oneCell']
   refine bodyPost_ret (results_cell_row Tryz.results134 _ _ q0 72 #[.int .i64 2, .int .i64 0, .float .f64 z, .slice none 0 0] (0, 0) _ rfl (setRow_heap _ _ _ _ _ _ TQ.out) Tryz.underlying72 rfl sizeIt) rfl ?_
   exact AN.out
 by_cases t3 : t = 3
 · subst t3
   go_wp2_with fail
   refine (l1Once c1 hn 5 (by omega) (by omega)).mono ?_
   rintro e w2 ⟨q, rfl, c2, g2⟩
   have G2 := grown_trans g1 g2
   cases q
   · go_wp2_with fail
     refine (l1number c2 hn).mono ?_
     rintro e w9 ⟨y9, rfl, hy90, hy91, c9, g9⟩
     have FA := finI (M := 1000) G0.out HQ.out Z0.out T0.out hgl (grown_trans G2 g9) c9 (show w9.ownsRow U.heap.size 5 1 (.slice none 0 0) ([] : List Int).length (bys []) from World.ownsRow_nil _ _ _ _) (by simp) (by simp) (by omega) (by omega) (K := 1) (N := y9) (f := 0)
     have TQ := hid FA.1
     have AN := hid FA.2
     clear FA
     go_wp2_with (first
      | (refine wpList_store_row rfl 72 _ _ rfl q0 #[.int .i64 1, .int .i64 y9, .float .f64 0, .slice none 0 0] rfl rfl 72 _ TQ.out ?s1x4 ?s2x4 ?s3x4 ?_))
     case s1x4 => simpa using sizeIt
     try case s2x4 => rfl
     case s3x4 => simp [Value.oneCell']
     refine bodyPost_ret (results_cell_row Tryz.results134 _ _ q0 72 #[.int .i64 1, .int .i64 y9, .float .f64 0, .slice none 0 0] (0, 0) _ rfl (setRow_heap _ _ _ _ _ _ TQ.out) Tryz.underlying72 rfl sizeIt) rfl ?_
     exact AN.out
   · go_wp2_with fail
     refine (l1some2 c2 hn 40 (by omega) (by omega)).mono ?_
     rintro e w9 ⟨sv, SL, rfl, o9, bd9, hl9, -, c9, g9⟩
     obtain ⟨a9, q9, rfl⟩ : ∃ a c, sv = .slice a SL.length c := by
      rcases o9.2 with ⟨h1, h2⟩ | ⟨g', cap', cur, h1, _⟩
      · exact ⟨none, 0, by rw [h1, h2]⟩
      · exact ⟨_, _, h1⟩
     have O9 := hid (owns_lower o9 (G2).size)
     clear o9
     have FA := finI (M := 1000) G0.out HQ.out Z0.out T0.out hgl (grown_trans G2 g9) c9 O9.out bd9 hl9 (by omega) (by omega) (K := 3) (N := 0) (f := 0)
     have TQ := hid FA.1
     have AN := hid FA.2
     clear FA
     go_wp2_with (first
      | (refine wpList_store_row rfl 72 _ _ rfl q0 #[.int .i64 3, .int .i64 0, .float .f64 0, (.slice a9 SL.length q9)] rfl rfl 72 _ TQ.out ?s1x5 ?s2x5 ?s3x5 ?_))
     case s1x5 => simpa using sizeIt
     try case s2x5 => rfl
     case s3x5 => simp [Value.oneCell']
     refine bodyPost_ret (results_cell_row Tryz.results134 _ _ q0 72 #[.int .i64 3, .int .i64 0, .float .f64 0, (.slice a9 SL.length q9)] (0, 0) _ rfl (setRow_heap _ _ _ _ _ _ TQ.out) Tryz.underlying72 rfl sizeIt) rfl ?_
     exact AN.out
 go_wp2_with fail
 refine (l1number c1 hn).mono ?_
 rintro e w9 ⟨y9, rfl, hy90, hy91, c9, g9⟩
 have FA := finI (M := 1000) G0.out HQ.out Z0.out T0.out hgl (grown_trans g1 g9) c9 (show w9.ownsRow U.heap.size 5 1 (.slice none 0 0) ([] : List Int).length (bys []) from World.ownsRow_nil _ _ _ _) (by simp) (by simp) (by omega) (by omega) (K := 1) (N := y9) (f := 0)
 have TQ := hid FA.1
 have AN := hid FA.2
 clear FA
 go_wp2_with (first
  | (refine wpList_store_row rfl 72 _ _ rfl q0 #[.int .i64 1, .int .i64 y9, .float .f64 0, .slice none 0 0] rfl rfl 72 _ TQ.out ?s1x6 ?s2x6 ?s3x6 ?_))
 case s1x6 => simpa using sizeIt
 try case s2x6 => rfl
 case s3x6 => simp [Value.oneCell']
 refine bodyPost_ret (results_cell_row Tryz.results134 _ _ q0 72 #[.int .i64 1, .int .i64 y9, .float .f64 0, .slice none 0 0] (0, 0) _ rfl (setRow_heap _ _ _ _ _ _ TQ.out) Tryz.underlying72 rfl sizeIt) rfl ?_
 exact AN.out
end Go.Proofs.YtjcjoabblafboaaGreat
/- An item that is being drawn: its box, its text, the cursor; what stays. No statement of its own; no conditions. -/


namespace Go.Proofs.YtjcjoabblafboaaGreat
open Go.RowKit
structure Bi (w : World) (g p : Nat) (ad : Option Addr) (n cap : Nat) (zs : List Int) (wr : World) (K N : Int) (f : Nat) (v : Value) (D : List Int) : Prop where
 gl : g < w.heap.size
 lo : w.heap.size ≤ p
 gr : w.grownBy wr (some g)
 cur : Cur wr g ad n cap zs
 box : wr.heap[p]? = some (.cells #[.int .i64 K, .int .i64 N, .float .f64 f, v] 72)
 own : wr.ownsRow w.heap.size 5 1 v D.length (bys D)
 bd : ∀ i, 0 ≤ D.getD i 0 ∧ D.getD i 0 ≤ 255
section
variable {w : World} {g p : Nat} {ad : Option Addr} {n cap : Nat} {zs : List Int} {wr w' : World} {K N : Int} {f : Nat} {v : Value} {D : List Int}
theorem Bi.size (h : Bi w g p ad n cap zs wr K N f v D) : w.heap.size ≤ wr.heap.size := h.gr.size
theorem Bi.plt (h : Bi w g p ad n cap zs wr K N f v D) : p < wr.heap.size := (Array.getElem?_eq_some_iff.1 h.box).1
theorem Bi.cells {a : Option Addr} {m c : Nat} (h : Bi w g p ad n cap zs wr K N f (.slice a m c) D) : Box wr p K N f a m c := by
 have t := h.box
 refine ⟨?_, ?_, ?_, ?_⟩ <;> (rw [cell_of_row _ _ _ _ _ _ t]; rfl)
theorem Bi.c3 {a : Option Addr} {m c : Nat} (h : Bi w g p ad n cap zs wr K N f (.slice a m c) D) : wr.cell? ⟨p, 3, none⟩ = some (.slice a m c) := h.cells.c3
theorem Bi.froz (h : Bi w g p ad n cap zs wr K N f v D) (i : Nat) : wr.frozen? ⟨p, i, none⟩ = false := frozen_of_row _ _ _ _ _ h.box
theorem Bi.still (h : Bi w g p ad n cap zs wr K N f v D) (hs : Still wr w') : Bi w g p ad n cap zs w' K N f v D :=
 ⟨h.gl, h.lo, grown_still h.gr hs, h.cur.still hs, by rw [hs.heap]; exact h.box, owns_agree (lo := 0) (hi := wr.heap.size) h.own (fun k _ _ => by rw [hs.heap]) (fun k hk => ⟨Nat.zero_le _, (h.own.lt k hk).2⟩), h.bd⟩
theorem Bi.drew (h : Bi w g p ad n cap zs wr K N f v D) : Bi w g p ad n cap zs wr.drew K N f v D := h.still (Still.drew wr)
theorem Bi.cursor (h : Bi w g p ad n cap zs wr K N f v D) (c' : Cur w' g ad n cap zs) (hg : wr.grownBy w' (some g)) : Bi w g p ad n cap zs w' K N f v D := by
 have hl := h.lo
 have hgl := h.gl
 refine ⟨h.gl, h.lo, grown_trans h.gr hg, c', (hg.block p h.plt (by simp; omega)).trans h.box, h.own.kept hg ?_, h.bd⟩
 cases hv : v.ownBlock with
 | none => exact .inl rfl
 | some k => exact .inr (by have := (h.own.lt k hv).1; simp; omega)
theorem Bi.alloc (h : Bi w g p ad n cap zs wr K N f v D) (o : Obj) : Bi w g p ad n cap zs (wr.alloc o) K N f v D := by
 have hg := World.grownBy_alloc wr o none
 exact ⟨h.gl, h.lo, grown_new h.gr hg (fun r hr => by cases hr), h.cur.alloc o, (hg.block p h.plt (by simp)).trans h.box, h.own.alloc o, h.bd⟩
theorem Bi.set (h : Bi w g p ad n cap zs wr K N f v D) (i : Nat) (u : Value) {K' N' : Int} {f' : Nat} {v' : Value} {D' : List Int} (hu : (#[.int .i64 K, .int .i64 N, .float .f64 f, v] : Array Value).setIfInBounds i u = #[.int .i64 K', .int .i64 N', .float .f64 f', v'])
 (o : wr.ownsRow w.heap.size 5 1 v' D'.length (bys D')) (hb : ∀ i, 0 ≤ D'.getD i 0 ∧ D'.getD i 0 ≤ 255) : Bi w g p ad n cap zs (wr.setCell ⟨p, i, none⟩ u) K' N' f' v' D' := by
 have hg := grown_setCell wr p i u
 have hl := h.lo
 have hgl := h.gl
 refine ⟨h.gl, h.lo, grown_new h.gr hg (fun q hq => by cases hq; exact hl), h.cur.other hg (fun q hq => by cases hq; omega), ?_, o.kept hg (oty_ne o h.box (by decide)), hb⟩
 rw [heap_setCell_same wr p i _ _ u h.box, hu]
theorem Bi.setK (h : Bi w g p ad n cap zs wr K N f v D) (x : Int) : Bi w g p ad n cap zs (wr.setCell ⟨p, 0, none⟩ (.int .i64 x)) x N f v D := h.set 0 _ rfl h.own h.bd
theorem Bi.setN (h : Bi w g p ad n cap zs wr K N f v D) (x : Int) : Bi w g p ad n cap zs (wr.setCell ⟨p, 1, none⟩ (.int .i64 x)) K x f v D := h.set 1 _ rfl h.own h.bd
theorem Bi.setF (h : Bi w g p ad n cap zs wr K N f v D) (x : Nat) : Bi w g p ad n cap zs (wr.setCell ⟨p, 2, none⟩ (.float .f64 x)) K N x v D := h.set 2 _ rfl h.own h.bd
theorem Bi.setV (h : Bi w g p ad n cap zs wr K N f v D) {v' : Value} {D' : List Int} (o : wr.ownsRow w.heap.size 5 1 v' D'.length (bys D')) (hb : ∀ i, 0 ≤ D'.getD i 0 ∧ D'.getD i 0 ≤ 255) : Bi w g p ad n cap zs (wr.setCell ⟨p, 3, none⟩ v') K N f v' D' := h.set 3 _ rfl o hb
theorem Bi.row (h : Bi w g p ad n cap zs wr K N f v D) {K' N' : Int} {f' : Nat} {v' : Value} {D' : List Int} (o : wr.ownsRow w.heap.size 5 1 v' D'.length (bys D')) (hb : ∀ i, 0 ≤ D'.getD i 0 ∧ D'.getD i 0 ≤ 255) : Bi w g p ad n cap zs (wr.setRow p #[.int .i64 K', .int .i64 N', .float .f64 f', v']) K' N' f' v' D' := by
 have hg : wr.grownBy (wr.setRow p #[.int .i64 K', .int .i64 N', .float .f64 f', v']) (some p) := ⟨rfl, rfl, rfl, by simp, fun q _ hq => setRow_other _ _ _ _ (fun e => hq (by rw [e]))⟩
 have hl := h.lo
 have hgl := h.gl
 exact ⟨h.gl, h.lo, grown_new h.gr hg (fun q hq => by cases hq; exact hl), h.cur.other hg (fun q hq => by cases hq; omega), setRow_heap _ _ _ _ _ _ h.box, o.kept hg (oty_ne o h.box (by decide)), hb⟩
theorem Bi.grow (h : Bi w g p ad n cap zs wr K N f v D) (hg : wr.grownBy w' v.ownBlock) : w'.heap[p]? = some (.cells #[.int .i64 K, .int .i64 N, .float .f64 f, v] 72) ∧ Cur w' g ad n cap zs ∧ w.grownBy w' (some g) := by
 have hgl := h.gl
 refine ⟨(hg.block p h.plt (fun e => ?_)).trans h.box, h.cur.other hg (fun q hq => by have := (h.own.lt q hq).1; omega), grown_new h.gr hg (fun q hq => (h.own.lt q hq).1)⟩
 rcases oty_ne h.own h.box (by decide) with h1 | h1
 · rw [h1] at e; cases e
 · exact h1 e.symm
theorem Bi.app (h : Bi w g p ad n cap zs wr K N f v D) (hg : wr.grownBy w' v.ownBlock) {v' : Value} {D' : List Int} (o : w'.ownsRow w.heap.size 5 1 v' D'.length (bys D')) (hb : ∀ i, 0 ≤ D'.getD i 0 ∧ D'.getD i 0 ≤ 255) : Bi w g p ad n cap zs (w'.setCell ⟨p, 3, none⟩ v') K N f v' D' := by
 obtain ⟨hbox, hc, hgr⟩ := h.grow hg
 have hs := grown_setCell w' p 3 v'
 have hl := h.lo
 have hgl := h.gl
 refine ⟨h.gl, h.lo, grown_new hgr hs (fun q hq => by cases hq; exact hl), hc.other hs (fun q hq => by cases hq; omega), ?_, o.kept hs (oty_ne o hbox (by decide)), hb⟩
 rw [heap_setCell_same w' p 3 _ _ v' hbox]; rfl
theorem Bi.start {v : Value} {D : List Int} (hgl : g < w.heap.size) (hgr : w.grownBy wr (some g)) (hc : Cur wr g ad n cap zs) (o : wr.ownsRow w.heap.size 5 1 v D.length (bys D)) (hb : ∀ i, 0 ≤ D.getD i 0 ∧ D.getD i 0 ≤ 255) :
 Bi w g wr.heap.size ad n cap zs (wr.alloc (.cells #[.int .i64 K, .int .i64 N, .float .f64 f, v] 72)) K N f v D :=
 ⟨hgl, hgr.size, grown_new hgr (World.grownBy_alloc wr _ none) (fun r hr => by cases hr), hc.alloc _, heap_alloc_new wr _, o.alloc _, hb⟩
end
end Go.Proofs.YtjcjoabblafboaaGreat
