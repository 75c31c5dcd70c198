/- The draws of pages. For codes of at most 2^21 bytes. -/
import Derived.Test.YtioefplkadpfnaaPe7
namespace Go.Proofs.Ytioefplkadpfnaa
open Go.RowKit
set_option maxRecDepth 100000

/-- A page drawn, in its box; the answer's box lies before the cursor. -/
structure DS (w wr : World) (rb pb g : Nat) (ad : Option Addr) (nn cap : Nat) (zs : List Int) (L : Int) (a : Option Addr) (k c : Nat) (ss : List (List Int)) : Prop where
  row : wr.heap[pb]? = some (.cells #[.int .i64 L, .slice a k c] 26 (0, 0))
  own : OwnP wr w.heap.size wr.heap.size (.slice a k c) ss
  len : ss.length = k
  sm : Sm2 ss
  res : wr.heap[rb]? = some (.cells #[.int .i64 0, .slice none 0 0] 26 (0, 0))
  cur : Cur wr g ad nn cap zs
  gr : w.grownBy wr (some g)
  pbl : w.heap.size ≤ pb
  rbl : rb < w.heap.size
  rg : rb ≠ g
  gl : g < w.heap.size
section
variable {w wr wr' : World} {rb pb g : Nat} {ad : Option Addr} {nn cap : Nat} {zs : List Int} {L : Int} {a : Option Addr} {k c : Nat} {ss : List (List Int)}
theorem DS.box (h : DS w wr rb pb g ad nn cap zs L a k c ss) : BoxP wr pb L a k c := BoxP.row h.row
theorem DS.plt (h : DS w wr rb pb g ad nn cap zs L a k c ss) : pb < wr.heap.size := (Array.getElem?_eq_some_iff.1 h.row).1
theorem DS.rlt (h : DS w wr rb pb g ad nn cap zs L a k c ss) : rb < wr.heap.size := (Array.getElem?_eq_some_iff.1 h.res).1
theorem DS.start (o : OwnP wr w.heap.size wr.heap.size (.slice a k c) ss) (hl : ss.length = k) (sm : Sm2 ss) (hr : wr.heap[rb]? = some (.cells #[.int .i64 0, .slice none 0 0] 26 (0, 0))) (cu : Cur wr g ad nn cap zs) (gr : w.grownBy wr (some g)) (h1 : rb < w.heap.size) (h2 : rb ≠ g) (h3 : g < w.heap.size) :
    DS w (wr.alloc (.cells #[.int .i64 L, .slice a k c] 26)) rb wr.heap.size g ad nn cap zs L a k c ss :=
  have b := Below.alloc1 wr (.cells #[.int .i64 L, .slice a k c] 26)
  ⟨heap_alloc_new wr _, (o.below b (Nat.le_refl _)).mono (Nat.le_refl _) b.size, hl, sm, (b.block _ (Array.getElem?_eq_some_iff.1 hr).1).trans hr, cu.below b (Nat.le_refl _), gw_alloc gr _, gr.size, h1, h2, h3⟩
theorem DS.below (h : DS w wr rb pb g ad nn cap zs L a k c ss) (b : Below wr.heap.size wr wr') : DS w wr' rb pb g ad nn cap zs L a k c ss :=
  ⟨(b.block _ h.plt).trans h.row, (h.own.below b (Nat.le_refl _)).mono (Nat.le_refl _) b.size, h.len, h.sm, (b.block _ h.rlt).trans h.res, h.cur.below b (Nat.le_refl _), grown_new h.gr (below_grown b) (fun r e => by cases e), h.pbl, h.rbl, h.rg, h.gl⟩
theorem DS.go (h : DS w wr rb pb g ad nn cap zs L a k c ss) (c' : Cur wr' g ad nn cap zs) (hg : wr.grownBy wr' (some g)) : DS w wr' rb pb g ad nn cap zs L a k c ss := by
  have h1 := h.pbl
  have hl := h.gl
  obtain ⟨i, y, _, hr⟩ := h.cur.row
  exact ⟨(hg.block _ h.plt (by simp; omega)).trans h.row, (h.own.beside hr (by decide) (by decide) hg).mono (Nat.le_refl _) hg.size, h.len, h.sm, (hg.block _ h.rlt (fun e => h.rg (Option.some.inj e))).trans h.res, c', grown_trans h.gr hg, h.pbl, h.rbl, h.rg, h.gl⟩
theorem DS.store {L0 : Int} {a0 : Option Addr} {k0 c0 : Nat} (hrow : wr.heap[pb]? = some (.cells #[.int .i64 L0, .slice a0 k0 c0] 26 (0, 0))) (o : OwnP wr w.heap.size wr.heap.size (.slice a k c) ss) (hl : ss.length = k) (sm : Sm2 ss) (hr : wr.heap[rb]? = some (.cells #[.int .i64 0, .slice none 0 0] 26 (0, 0))) (cu : Cur wr g ad nn cap zs) (gr : w.grownBy wr (some g)) (h0 : w.heap.size ≤ pb) (h1 : rb < w.heap.size) (h2 : rb ≠ g) (h3 : g < w.heap.size) :
    DS w ((wr.setCell ⟨pb, 0, none⟩ (.int .i64 L)).setCell ⟨pb, 1, none⟩ (.slice a k c)) rb pb g ad nn cap zs L a k c ss := by
  have T1 := heap_setCell_same wr pb 0 _ 26 (.int .i64 L) hrow
  have T2 := heap_setCell_same _ pb 1 _ 26 (.slice a k c) T1
  have gg := grown_trans (grown_set7 wr pb 0 (.int .i64 L)) (grown_set7 (wr.setCell ⟨pb, 0, none⟩ (.int .i64 L)) pb 1 (.slice a k c))
  exact ⟨T2, (o.beside hrow (by decide) (by decide) gg).mono (Nat.le_refl _) gg.size, hl, sm, (gg.block _ (Array.getElem?_eq_some_iff.1 hr).1 (by simp; omega)).trans hr, cu.other gg (fun r e => by cases e; omega), grown_new gr gg (fun r e => by cases e; omega), h0, h1, h2, h3⟩
/-- The answer is laid. -/
theorem DS.fin (h : DS w wr rb pb g ad nn cap zs L a k c ss) : ReadsS ((wr.setCell ⟨rb, 0, none⟩ (.int .i64 L)).setCell ⟨rb, 1, none⟩ (.slice a k c)) a ss ∧ wr.grownBy ((wr.setCell ⟨rb, 0, none⟩ (.int .i64 L)).setCell ⟨rb, 1, none⟩ (.slice a k c)) (some rb) := by
  have gg := grown_trans (grown_set7 wr rb 0 (.int .i64 L)) (grown_set7 (wr.setCell ⟨rb, 0, none⟩ (.int .i64 L)) rb 1 (.slice a k c))
  exact ⟨(h.own.beside h.res (by decide) (by decide) gg).rd, gg⟩
end
theorem results_cell_tmp37 {P : Program} {fn : Func} {p q r t' : Tmp} {ty : TypeId} (h : fn.results = #[.cell p ty, .tmp q, .tmp r, .tmp t']) (tmps : Array Value) (w : World) (g : Nat) (t : TypeId) (cs : Array Value) (fr : Nat × Nat) (d : TypeDesc)
    (hp : tmps.getD p undef = .pointer (some ⟨g, 0, none⟩)) (hg : w.heap[g]? = some (.cells cs t fr))
    (hu : P.underlying ty = some d) (hd : (match d with | .struct _ | .array _ _ => true | _ => false) = true) (hi : (P.info? ty).map (·.size) = some cs.size) :
    (results fn tmps).run P w = .ok (.tuple #[.agg cs, tmps.getD q undef, tmps.getD r undef, tmps.getD t' undef]) w := by
  have hp' : tmps[p]?.getD undef = .pointer (some ⟨g, 0, none⟩) := by simpa using hp
  simp [results, h, hp', asAddr, run_loadVar_row w g t ty cs fr d hg hu hd hi]

structure AnsDB (w : World) (e : Ending) (w' : World) : Prop where
  ex : ∃ L a k c ss, e = .returned (.agg #[.int .i64 L, .slice a k c]) ∧ ReadsS w' a ss ∧ ss.length = k ∧ Sm2 ss ∧ Below w.heap.size w w'
structure AnsDl (w : World) (e : Ending) (w' : World) : Prop where
  ex : ∃ L a k c ss x, e = .returned (.tuple #[.agg #[.int .i64 L, .slice a k c], .int .i64 x]) ∧ (-1000 ≤ x ∧ x ≤ 1000) ∧ ReadsS w' a ss ∧ ss.length = k ∧ Sm2 ss ∧ Below w.heap.size w w'
structure AnsDp (w : World) (e : Ending) (w' : World) : Prop where
  ex : ∃ L a k c ss sl aD nD cD D lsn, e = .returned (.tuple #[.agg #[.int .i64 L, .slice a k c], .int .i64 sl, .slice aD nD cD, .int .i64 lsn]) ∧ ReadsS w' a ss ∧ ss.length = k ∧ Sm2 ss ∧ Reads w' aD nD D ∧ (aD = none → cD = 0) ∧ nD ≤ 1000 ∧ Below w.heap.size w w'

set_option maxHeartbeats 6400000 in
theorem drawPageBytes {w : World} {ad : Option Addr} {nn : Nat} (cap : Nat) {zs : List Int} (h : Reads w ad nn zs) (hn : nn ≤ 2097152) :
    Calls Try.prog 20 #[.slice ad nn cap] w fun e w' => AnsDB w e w' := by
  have HB := hid (Below.alloc1 w (.cells #[.int .i64 0, .slice none 0 0] 26))
  have R0 := hid (heap_alloc_new w (.cells #[.int .i64 0, .slice none 0 0] 26))
  have Z0 := hid (alloc_size w (.cells #[.int .i64 0, .slice none 0 0] 26))
  have HRD := hid (h.below HB.out (Nat.le_refl _))
  clear h
  go_enter Try.func20, Try.ntmps20
  go_wp2_with fail
  generalize w.alloc (.cells #[.int .i64 0, .slice none 0 0] 26) = W at *
  refine (l1New cap HRD.out hn).mono ?_
  rintro e w1 ⟨g, rfl, hgW, cu, b1⟩
  replace R0 := hid ((b1.block _ (by have := Z0.out; omega)).trans R0.out)
  replace HB := hid (HB.out.trans (b1.mono HB.out.size))
  have HG := hid (show w.heap.size < g by have := Z0.out; omega)
  have HGL := hid cu.lt
  have HC := hid cu
  clear b1 hgW cu HRD Z0
  go_wp2_with fail
  refine (l7page HC.out hn).mono ?_
  rintro e w2 ⟨L, a, k, c, ss, rfl, o, hl, sm, c', gg⟩
  have HD := hid (DS.start (L := L) o hl sm.two ((gg.block _ (by have := HG.out; have := HGL.out; omega) (by have := HG.out; simp; omega)).trans R0.out) c' gg (by have := HG.out; have := HGL.out; omega) (by have := HG.out; omega) HGL.out)
  have HSM := hid sm
  clear o hl sm c' gg R0 HC
  go_wp2_with fail
  generalize w2.alloc (.cells #[.int .i64 L, .slice a k c] 26) = V at *
  generalize w2.heap.size = pb at *
  refine (l1Once HD.out.cur hn 6 (by omega) (by omega)).mono ?_
  rintro e w3 ⟨b, rfl, c', gg⟩
  replace HD := hid (HD.out.go c' gg)
  clear c' gg
  go_upto_if 10 with fail
  go_cut [] (fun wx => ∃ (L : Int) (a : Option Addr) (k c : Nat) (ss : List (List Int)), Hid (DS w1 wx w.heap.size pb g ad nn cap zs L a k c ss))
  case first =>
    cases b
    · go_wp2_with fail
      go_meet
      case rel => exact ⟨L, a, k, c, ss, HD⟩
    · obtain ⟨y0, y1⟩ := HD.out.box
      go_wp2_with fail
      clear y0 y1
      refine (l7bent HD.out.gr HD.out.gl HD.out.own HD.out.len HSM.out HD.out.cur hn).mono ?_
      rintro e w4 ⟨L2, a2, k2, c2, s2, rfl, o2, l2, m2, c', gg, kp⟩
      have R := kp pb _ HD.out.row
      have RS := kp _ _ HD.out.res
      have z0 : w4.cell? ⟨pb, 0, none⟩ = some (.int .i64 L) := cell_of_row _ _ 0 _ _ _ R
      have z1 : w4.cell? ⟨pb, 1, none⟩ = some (.slice a k c) := cell_of_row _ _ 1 _ _ _ R
      have f0 : w4.frozen? ⟨pb, 0, none⟩ = false := frozen_of_row _ _ _ _ _ R
      have f1 : w4.frozen? ⟨pb, 1, none⟩ = false := frozen_of_row _ _ _ _ _ R
      have HD2 := hid (DS.store (L := L2) R o2 l2 m2 RS c' gg HD.out.pbl HD.out.rbl HD.out.rg HD.out.gl)
      clear R RS o2 l2 m2 c' gg kp
      go_wp2_with fail
      go_meet
      case rel => exact ⟨L2, a2, k2, c2, s2, HD2⟩
  case rest =>
  clear HD HSM
  obtain ⟨L, a, k, c, ss, HD⟩ := hcut
  obtain ⟨y0, y1⟩ := HD.out.box
  have r0 : wc.cell? ⟨w.heap.size, 0, none⟩ = some (.int .i64 0) := cell_of_row _ _ 0 _ _ _ HD.out.res
  have r1 : wc.cell? ⟨w.heap.size, 1, none⟩ = some (.slice none 0 0) := cell_of_row _ _ 1 _ _ _ HD.out.res
  have rf0 : wc.frozen? ⟨w.heap.size, 0, none⟩ = false := frozen_of_row _ _ _ _ _ HD.out.res
  have rf1 : wc.frozen? ⟨w.heap.size, 1, none⟩ = false := frozen_of_row _ _ _ _ _ HD.out.res
  have T1 := heap_setCell_same wc w.heap.size 0 _ 26 (.int .i64 L) HD.out.res
  have T2 := hid (heap_setCell_same _ w.heap.size 1 _ 26 (.slice a k c) T1)
  have HF := hid HD.out.fin
  have HBF := hid ((HB.out.grown HD.out.gr HB.out.size (fun r e => by cases e; have := HG.out; omega)).grown HF.out.2 (by have := HB.out.size; have := HD.out.gr.size; omega) (fun r e => by cases e; exact Nat.le_refl _))
  clear T1
  go_wp2_with fail
  exact bodyPost_ret (results_cell_row Try.results20 _ _ w.heap.size 26 _ (0, 0) _ rfl T2.out Try.underlying26 rfl size_pg) rfl ⟨L, a, k, c, ss, rfl, HF.out.1, HD.out.len, HD.out.sm, HBF.out⟩

set_option maxHeartbeats 6400000 in
theorem drawPagePut {w : World} {ad : Option Addr} {nn : Nat} (cap : Nat) {zs : List Int} (h : Reads w ad nn zs) (hn : nn ≤ 2097152) :
    Calls Try.prog 12 #[.slice ad nn cap] w fun e w' => AnsDp w e w' := by
  have HB := hid (Below.alloc1 w (.cells #[.int .i64 0, .slice none 0 0] 26))
  have R0 := hid (heap_alloc_new w (.cells #[.int .i64 0, .slice none 0 0] 26))
  have Z0 := hid (alloc_size w (.cells #[.int .i64 0, .slice none 0 0] 26))
  have HRD := hid (h.below HB.out (Nat.le_refl _))
  clear h
  go_enter Try.func12, Try.ntmps12
  go_wp2_with fail
  generalize w.alloc (.cells #[.int .i64 0, .slice none 0 0] 26) = W at *
  refine (l1New cap HRD.out hn).mono ?_
  rintro e w1 ⟨g, rfl, hgW, cu, b1⟩
  replace R0 := hid ((b1.block _ (by have := Z0.out; omega)).trans R0.out)
  replace HB := hid (HB.out.trans (b1.mono HB.out.size))
  have HG := hid (show w.heap.size < g by have := Z0.out; omega)
  have HGL := hid cu.lt
  have HC := hid cu
  clear b1 hgW cu HRD Z0
  go_wp2_with fail
  refine (l7page HC.out hn).mono ?_
  rintro e w2 ⟨L, a, k, c, ss, rfl, o, hl, sm, c', gg⟩
  have HD := hid (DS.start (L := L) o hl sm.two ((gg.block _ (by have := HG.out; have := HGL.out; omega) (by have := HG.out; simp; omega)).trans R0.out) c' gg (by have := HG.out; have := HGL.out; omega) (by have := HG.out; omega) HGL.out)
  have HSM := hid sm
  clear o hl sm c' gg R0 HC
  go_wp2_with fail
  generalize w2.alloc (.cells #[.int .i64 L, .slice a k c] 26) = V at *
  generalize w2.heap.size = pb at *
  refine (l1Once HD.out.cur hn 9 (by omega) (by omega)).mono ?_
  rintro e w3 ⟨b, rfl, c', gg⟩
  replace HD := hid (HD.out.go c' gg)
  clear c' gg
  go_upto_if 16 with fail
  go_cut [] (fun wx => ∃ (L : Int) (a : Option Addr) (k c : Nat) (ss : List (List Int)), Hid (DS w1 wx w.heap.size pb g ad nn cap zs L a k c ss))
  case first =>
    cases b
    · go_wp2_with fail
      go_meet
      case rel => exact ⟨L, a, k, c, ss, HD⟩
    · obtain ⟨y0, y1⟩ := HD.out.box
      go_wp2_with fail
      clear y0 y1
      refine (l7bent HD.out.gr HD.out.gl HD.out.own HD.out.len HSM.out HD.out.cur hn).mono ?_
      rintro e w4 ⟨L2, a2, k2, c2, s2, rfl, o2, l2, m2, c', gg, kp⟩
      have R := kp pb _ HD.out.row
      have RS := kp _ _ HD.out.res
      have z0 : w4.cell? ⟨pb, 0, none⟩ = some (.int .i64 L) := cell_of_row _ _ 0 _ _ _ R
      have z1 : w4.cell? ⟨pb, 1, none⟩ = some (.slice a k c) := cell_of_row _ _ 1 _ _ _ R
      have f0 : w4.frozen? ⟨pb, 0, none⟩ = false := frozen_of_row _ _ _ _ _ R
      have f1 : w4.frozen? ⟨pb, 1, none⟩ = false := frozen_of_row _ _ _ _ _ R
      have HD2 := hid (DS.store (L := L2) R o2 l2 m2 RS c' gg HD.out.pbl HD.out.rbl HD.out.rg HD.out.gl)
      clear R RS o2 l2 m2 c' gg kp
      go_wp2_with fail
      go_meet
      case rel => exact ⟨L2, a2, k2, c2, s2, HD2⟩
  case rest =>
  clear HD HSM
  obtain ⟨L, a, k, c, ss, HD⟩ := hcut
  go_wp2_with fail
  refine (l6tuple HD.out.cur hn).mono ?_
  rintro e w5 ⟨A, B, K, N, f, a1, c1, D1, LL, M, h', a2, c2, D2, rfl, o1, b1, l1, hN, hf, o2, b2, l2, hM, hh, c', gg⟩
  have HZ3 := hid (show w1.heap.size ≤ w5.heap.size by have := HD.out.gr.size; have := gg.size; omega)
  replace HD := hid (HD.out.go c' gg)
  have O1 := hid o1
  have O2 := hid o2
  clear c' gg o1 o2
  go_wp2_with fail
  refine (spec_TupleBytes A B K N f c1 LL M h' c2 (reads_of O1.out b1).1 (reads_of O2.out b2).1 (reads_of O1.out b1).2 (reads_of O2.out b2).2 (by omega) (by omega) hN hM hf hh).mono ?_
  rintro e w6 ⟨v, rfl, o, b⟩
  have HDB := hid (show bdZ _ from bytesT_bd (A := A) (B := B) (K := K) (N := N) (f := f) (L := LL) (M := M) (h := h') b1 b2 rfl rfl)
  have hDL := bytesT_length (A := A) (B := B) (K := K) (N := N) (f := f) (zs := D1) (L := LL) (M := M) (h := h') (ys := D2) rfl rfl
  replace HD := hid (HD.out.below b)
  obtain ⟨D, hD⟩ : ∃ D, bytesT A B K N f D1.length D1 LL M h' D2.length D2 = D := ⟨_, rfl⟩
  rw [hD] at o HDB hDL
  obtain ⟨nD, hnD⟩ : ∃ nD, D.length = nD := ⟨_, rfl⟩
  rw [hnD] at o hDL
  obtain ⟨aD, cD, rfl⟩ := own_slice o
  have HDR := hid (owns_lower o HZ3.out)
  clear o b hD O1 O2 b1 b2 l1 l2 hN hM hf hh HZ3
  go_wp2_with fail
  refine (l1Below HD.out.cur hn 18 (by omega) (by omega)).mono ?_
  rintro e w7 ⟨x, rfl, x0, x1, c', gg⟩
  replace HDR := hid (own_cur HDR.out HD.out.cur gg)
  replace HD := hid (HD.out.go c' gg)
  clear c' gg
  go_wp2_with fail
  refine (l1Once HD.out.cur hn 2 (by omega) (by omega)).mono ?_
  rintro e w8 ⟨b8, rfl, c', gg⟩
  replace HDR := hid (own_cur HDR.out HD.out.cur gg)
  replace HD := hid (HD.out.go c' gg)
  clear c' gg
  go_upto_if 27 with fail
  go_cut [9] (fun s9 wx => ∃ sl : Int, s9 = .int .i64 sl ∧ Hid (wx.ownsRow w1.heap.size 5 1 (.slice aD nD cD) nD (bys D)) ∧ Hid (DS w1 wx w.heap.size pb g ad nn cap zs L a k c ss))
  case first =>
    cases b8
    · go_wp2_with fail
      go_meet
      case rel => exact ⟨_, rfl, HDR, HD⟩
    · obtain ⟨y0, y1⟩ := HD.out.box
      go_wp2_with fail
      clear y0 y1
      refine (spec_PagePlace L c nD HD.out.own.rd HD.out.len (by have := HD.out.sm.n; have := HD.out.len; omega)).mono ?_
      rintro e w9 ⟨rfl, b⟩
      replace HDR := hid (owns_below b (Nat.le_refl _) HDR.out)
      replace HD := hid (HD.out.below b)
      clear b
      go_wp2_with fail
      go_meet
      case rel => exact ⟨_, rfl, HDR, HD⟩
  case rest =>
  clear HDR HD
  obtain ⟨sl, rfl, HDR, HD⟩ := hcut
  go_wp2_with fail
  refine (l1Once HD.out.cur hn 9 (by omega) (by omega)).mono ?_
  rintro e w9 ⟨b9, rfl, c', gg⟩
  replace HDR := hid (own_cur HDR.out HD.out.cur gg)
  replace HD := hid (HD.out.go c' gg)
  clear c' gg
  go_upto_if 33 with fail
  go_cut [8] (fun s8 wx => ∃ (aD : Option Addr) (nD cD : Nat) (D : List Int), s8 = .slice aD nD cD ∧ nD ≤ 1000 ∧ Hid (bdZ D) ∧ Hid (wx.ownsRow w1.heap.size 5 1 (.slice aD nD cD) nD (bys D)) ∧ Hid (DS w1 wx w.heap.size pb g ad nn cap zs L a k c ss))
  case first =>
    cases b9
    · go_wp2_with fail
      go_meet
      case rel => exact ⟨aD, nD, cD, D, rfl, by omega, HDB, HDR, HD⟩
    · go_wp2_with fail
      refine (l1Below HD.out.cur hn 94 (by omega) (by omega)).mono ?_
      rintro e w10 ⟨y, rfl, y0, y1, c', gg⟩
      replace HD := hid (HD.out.go c' gg)
      clear c' gg HDR
      obtain ⟨q, rfl⟩ := Int.eq_ofNat_of_zero_le y0
      have hm := mkZ (q : Int) y0 (by omega) w10
      rw [Int.toNat_natCast] at hm
      have HO := hid (ownZ q (by omega) w10)
      have HLO := hid (show w1.heap.size ≤ w10.heap.size from HD.out.gr.size)
      replace HD := hid (HD.out.below (Below.alloc1 w10 (.cells (madeCells #[.int .u8 0] q) 5)))
      go_wp2_with fail
      go_meet
      case rel => exact ⟨_, q, q, List.replicate q 0, rfl, by omega, hid (rep_bd q), hid (owns_lower HO.out HLO.out), HD⟩
  case rest =>
  clear HDR HD HDB hDL hnD
  obtain ⟨aD, nD, cD, D, rfl, hnD, HDB, HDR, HD⟩ := hcut
  go_wp2_with fail
  refine (l1Below HD.out.cur hn 60 (by omega) (by omega)).mono ?_
  rintro e w11 ⟨y, rfl, y0, y1, c', gg⟩
  replace HDR := hid (own_cur HDR.out HD.out.cur gg)
  replace HD := hid (HD.out.go c' gg)
  clear c' gg
  go_wp2_with fail
  refine (l1Once HD.out.cur hn 12 (by omega) (by omega)).mono ?_
  rintro e w12 ⟨b12, rfl, c', gg⟩
  replace HDR := hid (own_cur HDR.out HD.out.cur gg)
  replace HD := hid (HD.out.go c' gg)
  clear c' gg
  cases b12
  · skip
    obtain ⟨yy0, yy1⟩ := HD.out.box
    have r0 : w12.cell? ⟨w.heap.size, 0, none⟩ = some (.int .i64 0) := cell_of_row _ _ 0 _ _ _ HD.out.res
    have r1 : w12.cell? ⟨w.heap.size, 1, none⟩ = some (.slice none 0 0) := cell_of_row _ _ 1 _ _ _ HD.out.res
    have rf0 : w12.frozen? ⟨w.heap.size, 0, none⟩ = false := frozen_of_row _ _ _ _ _ HD.out.res
    have rf1 : w12.frozen? ⟨w.heap.size, 1, none⟩ = false := frozen_of_row _ _ _ _ _ HD.out.res
    have T1 := heap_setCell_same w12 w.heap.size 0 _ 26 (.int .i64 L) HD.out.res
    have T2 := hid (heap_setCell_same _ w.heap.size 1 _ 26 (.slice a k c) T1)
    have HF := hid HD.out.fin
    have HBF := hid ((HB.out.grown HD.out.gr HB.out.size (fun r e => by cases e; have := HG.out; omega)).grown HF.out.2 (by have := HB.out.size; have := HD.out.gr.size; omega) (fun r e => by cases e; exact Nat.le_refl _))
    have HRR := hid (show Reads _ aD nD D ∧ (aD = none → cD = 0) from reads_of (HDR.out.kept HF.out.2 (oty_ne HDR.out HD.out.res (by decide))) HDB.out)
    clear T1
    go_wp2_with fail
    exact bodyPost_ret (results_cell_tmp37 Try.results12 _ _ w.heap.size 26 _ (0, 0) _ rfl T2.out Try.underlying26 rfl size_pg) rfl ⟨L, a, k, c, ss, _, aD, nD, cD, D, _, rfl, HF.out.1, HD.out.len, HD.out.sm, HRR.out.1, HRR.out.2, by omega, HBF.out⟩
  · go_wp2_with fail
    have bA := Below.alloc1 w12 (.cells #[.int .i64 0, .int .i64 1000000, .int .i64 1000001] 3)
    have RQ := hid (heap_alloc_new w12 (.cells #[.int .i64 0, .int .i64 1000000, .int .i64 1000001] 3))
    have HLT := hid (show g < w12.heap.size from HD.out.cur.lt)
    replace HDR := hid (owns_below bA (Nat.le_refl _) HDR.out)
    replace HD := hid (HD.out.below bA)
    clear bA
    generalize w12.alloc (.cells #[.int .i64 0, .int .i64 1000000, .int .i64 1000001] 3) = W12 at *
    refine (l1PickInt HD.out.cur hn RQ.out HLT.out).mono ?_
    rintro e w13 ⟨z, rfl, _, c', gg⟩
    replace HDR := hid (own_cur HDR.out HD.out.cur gg)
    replace HD := hid (HD.out.go c' gg)
    clear c' gg RQ HLT
    obtain ⟨yy0, yy1⟩ := HD.out.box
    have r0 : w13.cell? ⟨w.heap.size, 0, none⟩ = some (.int .i64 0) := cell_of_row _ _ 0 _ _ _ HD.out.res
    have r1 : w13.cell? ⟨w.heap.size, 1, none⟩ = some (.slice none 0 0) := cell_of_row _ _ 1 _ _ _ HD.out.res
    have rf0 : w13.frozen? ⟨w.heap.size, 0, none⟩ = false := frozen_of_row _ _ _ _ _ HD.out.res
    have rf1 : w13.frozen? ⟨w.heap.size, 1, none⟩ = false := frozen_of_row _ _ _ _ _ HD.out.res
    have T1 := heap_setCell_same w13 w.heap.size 0 _ 26 (.int .i64 L) HD.out.res
    have T2 := hid (heap_setCell_same _ w.heap.size 1 _ 26 (.slice a k c) T1)
    have HF := hid HD.out.fin
    have HBF := hid ((HB.out.grown HD.out.gr HB.out.size (fun r e => by cases e; have := HG.out; omega)).grown HF.out.2 (by have := HB.out.size; have := HD.out.gr.size; omega) (fun r e => by cases e; exact Nat.le_refl _))
    have HRR := hid (show Reads _ aD nD D ∧ (aD = none → cD = 0) from reads_of (HDR.out.kept HF.out.2 (oty_ne HDR.out HD.out.res (by decide))) HDB.out)
    clear T1
    go_wp2_with fail
    exact bodyPost_ret (results_cell_tmp37 Try.results12 _ _ w.heap.size 26 _ (0, 0) _ rfl T2.out Try.underlying26 rfl size_pg) rfl ⟨L, a, k, c, ss, _, aD, nD, cD, D, _, rfl, HF.out.1, HD.out.len, HD.out.sm, HRR.out.1, HRR.out.2, by omega, HBF.out⟩

end Go.Proofs.Ytioefplkadpfnaa
