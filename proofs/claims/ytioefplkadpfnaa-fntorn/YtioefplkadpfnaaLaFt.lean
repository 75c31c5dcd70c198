/- FnTorn's walk. -/
import Derived.Test.YtioefplkadpfnaaAt7
import Derived.Test.YtioefplkadpfnaaPn7
namespace Go.Proofs.Ytioefplkadpfnaa
open Go.RowKit
set_option maxRecDepth 100000

theorem reads_blk {w : World} {b off n : Nat} {zs : List Int} (h : Reads w (some ⟨b, off, none⟩) n zs) (h0 : 0 < n) : b < w.heap.size := by
  rcases h.cells with h1 | ⟨b', off', e, hc⟩
  · omega
  · cases e
    exact World.block_lt_of_cell? w _ (hc 0 h0)

theorem bdZ_cut {z : List Int} (h : bdZ z) (i m : Nat) : bdZ ((z.drop i).take m) := by
  intro j
  rw [List.getD_eq_getElem?_getD, List.getElem?_take]
  split
  · rw [List.getElem?_drop, ← List.getD_eq_getElem?_getD]; exact h _
  · simp
theorem pickS_bd {a b : List Int} (ha : bdZ a) (hb : bdZ b) (f : Nat → Bool) : ∀ k, bdZ (pickS a b f k)
  | 0 => by intro i; simp [pickS]
  | k + 1 => by
    unfold pickS
    refine bdZ.app (pickS_bd ha hb f k) (bdZ_cut ?_ _ _)
    split
    · exact hb
    · exact ha
def zrow : Obj := .cells (madeCells #[.int .u8 0] 256) 5
theorem mkrow (w : World) : (Instr.makeSlice 22 (.int .i64 256) (.int .i64 256)).run Try.prog w = .ok (.slice (some ⟨w.heap.size, 0, none⟩) 256 256) (w.alloc zrow) := mkZ 256 (by omega) (by omega) w
theorem read_zl {w : World} {g : Nat} {zs : List Int} (h : Reads w (some ⟨g, 0, none⟩) 256 zs) (h1 : (readP zs).getD (0, []) = (0, [])) (h2 : (readP zs).isSome = true) :
    Calls Try.prog 16 #[.slice (some ⟨g, 0, none⟩) 256 256] w fun e w' => ∃ a' c', e = .returned (.tuple #[.agg #[.int .i64 0, .slice a' 0 c'], .bool true]) ∧ Below w.heap.size w w' := by
  refine (impl_PageRead h (Nat.le_refl _) (by omega) h1 h2 (m := 0) rfl).mono ?_
  rintro e w' ⟨a', c', h3, _, h4⟩
  exact ⟨a', c', h3, h4⟩
theorem read_zero (w : World) (g : Nat) (hg : w.heap.size = g) : Calls Try.prog 16 #[.slice (some ⟨g, 0, none⟩) 256 256] (w.alloc zrow) fun e w' => ∃ a' c', e = .returned (.tuple #[.agg #[.int .i64 0, .slice a' 0 c'], .bool true]) ∧ Below (w.alloc zrow).heap.size (w.alloc zrow) w' :=
  hg ▸ read_zl (reads_of (ownZ 256 (by omega) w) (rep_bd 256)).1 zero_getD zero_isSome

set_option maxHeartbeats 6400000 in
theorem lawTorn {ad : Option Addr} {nn : Nat} (cap : Nat) {zs : List Int} {w : World} (r : Reads w ad nn zs) (hm : nn ≤ maxLen) :
    Calls Try.prog 4 #[.slice ad nn cap] w fun e w' => e = .returned (.bool true) ∧ Below w.heap.size w w' := by
  unfold maxLen at hm
  obtain ⟨k0', ki, kz0, kz1, kz2⟩ := info_parts Try.info5
  have HR0 := hid r
  have HB := hid (Below.refl w.heap.size w)
  have hbg := law_big ad nn cap
  clear r
  go_enter Try.func4, Try.ntmps4
  go_wp2_with fail
  refine (hbg _).mono ?_
  rintro e w0 ⟨rfl, hw0⟩
  subst w0
  clear hbg
  by_cases hbig : (1048576 : Int) < (nn : Int)
  · rw [decide_eq_true hbig]
    go_wp2_with fail
    go_ret
    exact ⟨rfl, HB.out⟩
  rw [decide_eq_false hbig]
  have hn : nn ≤ 2097152 := by omega
  clear hbig
  go_wp2_with fail
  refine (drawPageBytes cap HR0.out hn).mono ?_
  rintro e w1 ⟨L, a, k, c, ss, rfl, rd, hl, sm, b⟩
  replace HB := hid (HB.out.trans (b.mono HB.out.size))
  have hk40 : k ≤ 40 := by have := sm.n; omega
  have HX := hid (ArgP.new L k c rd 26 w1.heap.size rfl)
  have bA := Below.alloc1 w1 (.cells #[.int .i64 L, .slice a k c] 26)
  replace HB := hid (HB.out.trans (bA.mono HB.out.size))
  clear b rd sm bA
  go_wp2_with fail
  generalize w1.alloc (.cells #[.int .i64 L, .slice a k c] 26) = U at *
  generalize w1.heap.size = pb at *
  refine (drawPagePut cap (HR0.out.below HB.out (Nat.le_refl _)) hn).mono ?_
  rintro e w2 ⟨L2, a2, k2, c2, s2, sl, aD, nD, cD, D, lsn, rfl, rd2, hl2, sm2, _, _, _, b⟩
  replace HX := hid (HX.out.below b (Nat.le_refl _))
  replace HB := hid (HB.out.trans (b.mono HB.out.size))
  have hk2 : k2 ≤ 40 := by have := sm2.n; omega
  have HY := hid (ArgP.new L2 k2 c2 rd2 26 w2.heap.size rfl)
  have bA := Below.alloc1 w2 (.cells #[.int .i64 L2, .slice a2 k2 c2] 26)
  replace HX := hid (HX.out.below bA (Nat.le_refl _))
  replace HB := hid (HB.out.trans (bA.mono HB.out.size))
  clear b rd2 sm2 bA
  have hmk := mkrow (w2.alloc (.cells #[.int .i64 L2, .slice a2 k2 c2] 26))
  have hU2 := hid (alloc_size w2 (.cells #[.int .i64 L2, .slice a2 k2 c2] 26))
  go_wp2_with fail
  generalize w2.alloc (.cells #[.int .i64 L2, .slice a2 k2 c2] 26) = U2 at *
  generalize w2.heap.size = pq at *
  clear hmk
  refine (read_zero U2 _ hU2.out).mono ?_
  have bZ := Below.alloc1 U2 zrow
  generalize U2.alloc zrow = U3 at *
  rintro e w3 ⟨az, cz, rfl, b⟩
  replace HX := hid (HX.out.below bZ (Nat.le_refl _))
  replace HY := hid (HY.out.below bZ (Nat.le_refl _))
  replace HB := hid (HB.out.trans (bZ.mono HB.out.size))
  replace HX := hid (HX.out.below b (Nat.le_refl _))
  replace HY := hid (HY.out.below b (Nat.le_refl _))
  replace HB := hid (HB.out.trans (b.mono HB.out.size))
  have bA := Below.alloc1 w3 (.cells #[.int .i64 0, .slice az 0 cz] 26)
  replace HX := hid (HX.out.below bA (Nat.le_refl _))
  replace HY := hid (HY.out.below bA (Nat.le_refl _))
  replace HB := hid (HB.out.trans (bA.mono HB.out.size))
  clear b bA bZ
  obtain ⟨y0, y1⟩ := HX.out.box
  go_wp2_with fail
  clear y0 y1
  generalize w3.alloc (.cells #[.int .i64 0, .slice az 0 cz] 26) = U4 at *
  refine (spec_PageUsed L c HX.out.reads hl).mono ?_
  rintro e w4 ⟨rfl, b⟩
  replace HX := hid (HX.out.below b (Nat.le_refl _))
  replace HY := hid (HY.out.below b (Nat.le_refl _))
  replace HB := hid (HB.out.trans (b.mono HB.out.size))
  clear b
  rcases usedP_bd (L := L) (ss := ss) with ⟨e1, e2⟩ | ⟨e1, e2, e3⟩
  · rw [e2]
    clear e1 e2
    go_wp2_with fail
    go_ret
    exact ⟨rfl, HB.out⟩
  have HOP := hid e1
  obtain ⟨u, hu⟩ : ∃ u, usedP L ss = u := ⟨_, rfl⟩
  rw [hu] at e2 e3 ⊢
  have qu : ¬ u < 0 := by omega
  clear e1 hu
  obtain ⟨y0, y1⟩ := HY.out.box
  go_wp2_with fail
  clear y0 y1
  refine (spec_PageUsed L2 c2 HY.out.reads hl2).mono ?_
  rintro e w5 ⟨rfl, b⟩
  replace HX := hid (HX.out.below b (Nat.le_refl _))
  replace HY := hid (HY.out.below b (Nat.le_refl _))
  replace HB := hid (HB.out.trans (b.mono HB.out.size))
  clear b
  obtain ⟨x0, x1⟩ := HX.out.box
  obtain ⟨y0, y1⟩ := HY.out.box
  rcases usedP_bd (L := L2) (ss := s2) with ⟨e1, e4⟩ | ⟨e1, e4, e5⟩
  · rw [e4]
    clear e1 e4
    go_wp2_with fail
    go_ret
    exact ⟨rfl, HB.out⟩
  have HOQ := hid e1
  obtain ⟨u2, hu2⟩ : ∃ u2, usedP L2 s2 = u2 := ⟨_, rfl⟩
  rw [hu2] at e4 e5 ⊢
  have qu2 : ¬ u2 < 0 := by omega
  clear e1 hu2
  by_cases hLL : L = L2
  · subst hLL
    have hLb : (L == L) = true := by simp
    go_wp2_with fail
    go_ret
    exact ⟨rfl, HB.out⟩
  have hLb : (L == L2) = false := by simpa using hLL
  have HNE := hid hLL
  clear hLL
  go_wp2_with fail
  clear x0 x1 y0 y1
  refine (impl_PageBytes L c HX.out.reads hl (by omega)).mono ?_
  rintro e w6 ⟨v, rfl, o, b⟩
  rw [bytesP_len HOP.out] at o
  have HBA := hid (show bdZ (bytesP L ss) from bytesP_bd HX.out.reads.bd)
  obtain ⟨ga, ca, e0, _, _⟩ := o.form (by omega)
  subst e0
  have hca := own_le o
  have hca2 : ca ≤ 9223372036854775807 := by rcases o.2 with ⟨e, _⟩ | ⟨g', cap', cur, e, _, _, h1, h2, _⟩; cases e; (obtain ⟨_, _, rfl⟩ := Value.slice.inj e; exact h2)
  have RA := hid ((reads_of o HBA.out).1)
  replace HX := hid (HX.out.below b (Nat.le_refl _))
  replace HY := hid (HY.out.below b (Nat.le_refl _))
  replace HB := hid (HB.out.trans (b.mono HB.out.size))
  clear b o
  obtain ⟨y0, y1⟩ := HY.out.box
  go_wp2_with fail
  clear y0 y1
  refine (impl_PageBytes L2 c2 HY.out.reads hl2 (by omega)).mono ?_
  rintro e w7 ⟨v, rfl, o, b⟩
  rw [bytesP_len HOQ.out] at o
  have HBQ := hid (show bdZ (bytesP L2 s2) from bytesP_bd HY.out.reads.bd)
  obtain ⟨gb, cb, e0, _, _⟩ := o.form (by omega)
  subst e0
  have hcb := own_le o
  have RBb := hid ((reads_of o HBQ.out).1)
  replace RA := hid (RA.out.below b (Nat.le_refl _))
  replace HB := hid (HB.out.trans (b.mono HB.out.size))
  have HGA := hid (show ga < w7.heap.size ∧ gb < w7.heap.size ∧ w.heap.size ≤ w7.heap.size from ⟨reads_blk RA.out (by omega), reads_blk RBb.out (by omega), HB.out.size⟩)
  clear b o HX HY
  have HMX := hid (mix_read HOP.out HOQ.out HNE.out)
  have hLA := hid (bytesP_len HOP.out)
  have hLQ := hid (bytesP_len HOQ.out)
  generalize bytesP L ss = A at *
  generalize bytesP L2 s2 = B at *
  have HZB := hid (Nat.le_refl w7.heap.size)
  obtain ⟨B0, hB0⟩ : ∃ B0, w7.heap.size = B0 := ⟨_, rfl⟩
  rw [hB0] at HGA
  have HZB := hid (show B0 ≤ w7.heap.size by omega)
  clear hB0
  go_wp2_with fail
  go_loopw [12, 13, 14] (fun s m i wr => ∃ (k : Nat) (F : Nat → Bool) (a5 : Option Addr) (c5 N : Nat), k ≤ 4 ∧ i = .int .i64 k ∧ m = .int .i64 N ∧ s = .slice a5 (64 * k) c5 ∧ Hid (N = cntB F k) ∧ Hid (wr.ownsRow B0 5 1 (.slice a5 (64 * k) c5) (64 * k) (bys (pickS A B F k))) ∧ Hid (Reads wr (some ⟨ga, 0, none⟩) 256 A) ∧ Hid (Reads wr (some ⟨gb, 0, none⟩) 256 B) ∧ Hid (Below w.heap.size w wr) ∧ Hid (B0 ≤ wr.heap.size)) (fun _ _ i _ => 4 - (intOf i).toNat)
  case atStart => exact ⟨0, fun _ => false, none, 0, 0, by omega, rfl, rfl, rfl, hid rfl, hid (World.ownsRow_nil _ _ _ _), RA, RBb, HB, HZB⟩
  case round =>
    clear RA RBb HB HZB
    obtain ⟨k, F, a5, c5, N, hk, rfl, rfl, rfl, HN, HO, RA, RBb, HB, HZB⟩ := hrel
    by_cases hlt : k < 4
    · have hNb : N ≤ 4 := by
        have e := HN.out
        rcases (show k = 0 ∨ k = 1 ∨ k = 2 ∨ k = 3 by omega) with rfl | rfl | rfl | rfl <;> simp only [cntB] at e <;> (repeat' split at e) <;> omega
      rcases (show k = 0 ∨ k = 1 ∨ k = 2 ∨ k = 3 by omega) with rfl | rfl | rfl | rfl <;> go_wp2_with fail
      · refine (law_at cap (HR0.out.below HB.out (Nat.le_refl _)) (by omega) 0 (by omega)).mono ?_
        rintro e w9 ⟨e9, x, rfl⟩
        subst w9
        by_cases hx : x % 2 = 1
        · skip
          have hx2 : (x : Int) % 2 = 1 := by omega
          have hx3 : (((x : Int).tmod 2) == 1) = true := by rw [Int.tmod_eq_emod_of_nonneg (by omega)]; simp [hx2]
          have l5 : 0 ≤ cb := by omega
          have l6 : 64 ≤ cb := by omega
          have l4 : ¬ cb = 0 := by omega
          have l3 : (64 : Int) ≤ (cb : Int) := by omega
          have R6 := hid (reads_cut RBb.out 0 64 (by omega))
          have hcl := hid (show ((B.drop 0).take 64).length = 64 from by have := RBb.out.len; rw [List.length_take, List.length_drop]; omega)
          simp only [Nat.zero_add] at R6
          have hd1 : (bys ((B.drop 0).take 64)).length = 64 * 1 := by rw [bys_length, hcl.out]
          have HD1 := hid hd1
          clear hd1
          go_wp2_with (at_builtin; refine wpList_append_row rfl _ _ 22 rfl B0 5 k0' (.int .u8 0) 1 1 Try.underlying22 ki kz0 kz1 kz2 rfl (by decide) _ _ _ rfl HO.out (some ⟨gb, 0, none⟩) 64 (cb - 0) (bys ((B.drop 0).take 64)) rfl HD1.out (R6.out.news' (c := cb - 0) (fun e => by cases e)) (fun e => by cases e) (bys_one _) (by unfold maxLen; omega) (by omega) HZB.out ?_)
          intro a8 c8 w8 o8 g8
          obtain ⟨F2, hF2, hF3⟩ := pickS_more A B F 0 true
          have HO8 := hid (show w8.ownsRow B0 5 1 (.slice a8 64 c8) 64 (bys (pickS A B F2 1)) by rw [hF2]; simpa [bys_append] using o8)
          have RA8 := hid (RA.out.other g8 (fun a e => by cases e; exact fun e => by have := (HO.out.lt ga e.symm).1; have := HGA.out; omega))
          have RB8 := hid (RBb.out.other g8 (fun a e => by cases e; exact fun e => by have := (HO.out.lt gb e.symm).1; have := HGA.out; omega))
          have HB8 := hid (HB.out.grown g8 HB.out.size (fun k hk => by have := (HO.out.lt k hk).1; have := HGA.out; omega))
          have HZ8 := hid (Nat.le_trans HZB.out g8.size)
          have HF3 := hid (show cntB F2 1 = cntB F 0 + 1 from hF3)
          have HRr := hid (HR0.out.below HB8.out (Nat.le_refl _))
          clear o8 g8 HO RA RBb HB R6 hF2 hF3
          go_wp2_with fail
          go_roundw
          case rel => exact ⟨1, F2, a8, c8, cntB F2 1, by omega, rfl, by rw [HF3.out, HN.out]; go_num, rfl, hid rfl, HO8, RA8, RB8, HB8, HZ8⟩
          case measure => simp [intOf]
        · skip
          have hx2 : (x : Int) % 2 = 0 := by omega
          have hx3 : (((x : Int).tmod 2) == 1) = false := by rw [Int.tmod_eq_emod_of_nonneg (by omega)]; simp [hx2]
          have l5 : 0 ≤ ca := by omega
          have l6 : 64 ≤ ca := by omega
          have l4 : ¬ ca = 0 := by omega
          have l3 : (64 : Int) ≤ (ca : Int) := by omega
          have R6 := hid (reads_cut RA.out 0 64 (by omega))
          have hcl := hid (show ((A.drop 0).take 64).length = 64 from by have := RA.out.len; rw [List.length_take, List.length_drop]; omega)
          simp only [Nat.zero_add] at R6
          have hd1 : (bys ((A.drop 0).take 64)).length = 64 * 1 := by rw [bys_length, hcl.out]
          have HD1 := hid hd1
          clear hd1
          go_wp2_with (at_builtin; refine wpList_append_row rfl _ _ 22 rfl B0 5 k0' (.int .u8 0) 1 1 Try.underlying22 ki kz0 kz1 kz2 rfl (by decide) _ _ _ rfl HO.out (some ⟨ga, 0, none⟩) 64 (ca - 0) (bys ((A.drop 0).take 64)) rfl HD1.out (R6.out.news' (c := ca - 0) (fun e => by cases e)) (fun e => by cases e) (bys_one _) (by unfold maxLen; omega) (by omega) HZB.out ?_)
          intro a8 c8 w8 o8 g8
          obtain ⟨F2, hF2, hF3⟩ := pickS_more A B F 0 false
          have HO8 := hid (show w8.ownsRow B0 5 1 (.slice a8 64 c8) 64 (bys (pickS A B F2 1)) by rw [hF2]; simpa [bys_append] using o8)
          have RA8 := hid (RA.out.other g8 (fun a e => by cases e; exact fun e => by have := (HO.out.lt ga e.symm).1; have := HGA.out; omega))
          have RB8 := hid (RBb.out.other g8 (fun a e => by cases e; exact fun e => by have := (HO.out.lt gb e.symm).1; have := HGA.out; omega))
          have HB8 := hid (HB.out.grown g8 HB.out.size (fun k hk => by have := (HO.out.lt k hk).1; have := HGA.out; omega))
          have HZ8 := hid (Nat.le_trans HZB.out g8.size)
          have HF3 := hid (show cntB F2 1 = cntB F 0 + 0 from hF3)
          have HRr := hid (HR0.out.below HB8.out (Nat.le_refl _))
          clear o8 g8 HO RA RBb HB R6 hF2 hF3
          go_wp2_with fail
          go_roundw
          case rel => exact ⟨1, F2, a8, c8, cntB F2 1, by omega, rfl, by rw [HF3.out, HN.out]; go_num, rfl, hid rfl, HO8, RA8, RB8, HB8, HZ8⟩
          case measure => simp [intOf]
      · refine (law_at cap (HR0.out.below HB.out (Nat.le_refl _)) (by omega) 1 (by omega)).mono ?_
        rintro e w9 ⟨e9, x, rfl⟩
        subst w9
        by_cases hx : x % 2 = 1
        · skip
          have hx2 : (x : Int) % 2 = 1 := by omega
          have hx3 : (((x : Int).tmod 2) == 1) = true := by rw [Int.tmod_eq_emod_of_nonneg (by omega)]; simp [hx2]
          have l5 : 64 ≤ cb := by omega
          have l6 : 128 ≤ cb := by omega
          have l4 : ¬ cb = 64 := by omega
          have l3 : (128 : Int) ≤ (cb : Int) := by omega
          have R6 := hid (reads_cut RBb.out 64 64 (by omega))
          have hcl := hid (show ((B.drop 64).take 64).length = 64 from by have := RBb.out.len; rw [List.length_take, List.length_drop]; omega)
          simp only [Nat.zero_add] at R6
          have hd1 : (bys ((B.drop 64).take 64)).length = 64 * 1 := by rw [bys_length, hcl.out]
          have HD1 := hid hd1
          clear hd1
          go_wp2_with (at_builtin; refine wpList_append_row rfl _ _ 22 rfl B0 5 k0' (.int .u8 0) 1 1 Try.underlying22 ki kz0 kz1 kz2 rfl (by decide) _ _ _ rfl HO.out (some ⟨gb, 64, none⟩) 64 (cb - 64) (bys ((B.drop 64).take 64)) rfl HD1.out (R6.out.news' (c := cb - 64) (fun e => by cases e)) (fun e => by cases e) (bys_one _) (by unfold maxLen; omega) (by omega) HZB.out ?_)
          intro a8 c8 w8 o8 g8
          obtain ⟨F2, hF2, hF3⟩ := pickS_more A B F 1 true
          have HO8 := hid (show w8.ownsRow B0 5 1 (.slice a8 128 c8) 128 (bys (pickS A B F2 2)) by rw [hF2]; simpa [bys_append] using o8)
          have RA8 := hid (RA.out.other g8 (fun a e => by cases e; exact fun e => by have := (HO.out.lt ga e.symm).1; have := HGA.out; omega))
          have RB8 := hid (RBb.out.other g8 (fun a e => by cases e; exact fun e => by have := (HO.out.lt gb e.symm).1; have := HGA.out; omega))
          have HB8 := hid (HB.out.grown g8 HB.out.size (fun k hk => by have := (HO.out.lt k hk).1; have := HGA.out; omega))
          have HZ8 := hid (Nat.le_trans HZB.out g8.size)
          have HF3 := hid (show cntB F2 2 = cntB F 1 + 1 from hF3)
          have HRr := hid (HR0.out.below HB8.out (Nat.le_refl _))
          clear o8 g8 HO RA RBb HB R6 hF2 hF3
          go_wp2_with fail
          go_roundw
          case rel => exact ⟨2, F2, a8, c8, cntB F2 2, by omega, rfl, by rw [HF3.out, HN.out]; go_num, rfl, hid rfl, HO8, RA8, RB8, HB8, HZ8⟩
          case measure => simp [intOf]
        · skip
          have hx2 : (x : Int) % 2 = 0 := by omega
          have hx3 : (((x : Int).tmod 2) == 1) = false := by rw [Int.tmod_eq_emod_of_nonneg (by omega)]; simp [hx2]
          have l5 : 64 ≤ ca := by omega
          have l6 : 128 ≤ ca := by omega
          have l4 : ¬ ca = 64 := by omega
          have l3 : (128 : Int) ≤ (ca : Int) := by omega
          have R6 := hid (reads_cut RA.out 64 64 (by omega))
          have hcl := hid (show ((A.drop 64).take 64).length = 64 from by have := RA.out.len; rw [List.length_take, List.length_drop]; omega)
          simp only [Nat.zero_add] at R6
          have hd1 : (bys ((A.drop 64).take 64)).length = 64 * 1 := by rw [bys_length, hcl.out]
          have HD1 := hid hd1
          clear hd1
          go_wp2_with (at_builtin; refine wpList_append_row rfl _ _ 22 rfl B0 5 k0' (.int .u8 0) 1 1 Try.underlying22 ki kz0 kz1 kz2 rfl (by decide) _ _ _ rfl HO.out (some ⟨ga, 64, none⟩) 64 (ca - 64) (bys ((A.drop 64).take 64)) rfl HD1.out (R6.out.news' (c := ca - 64) (fun e => by cases e)) (fun e => by cases e) (bys_one _) (by unfold maxLen; omega) (by omega) HZB.out ?_)
          intro a8 c8 w8 o8 g8
          obtain ⟨F2, hF2, hF3⟩ := pickS_more A B F 1 false
          have HO8 := hid (show w8.ownsRow B0 5 1 (.slice a8 128 c8) 128 (bys (pickS A B F2 2)) by rw [hF2]; simpa [bys_append] using o8)
          have RA8 := hid (RA.out.other g8 (fun a e => by cases e; exact fun e => by have := (HO.out.lt ga e.symm).1; have := HGA.out; omega))
          have RB8 := hid (RBb.out.other g8 (fun a e => by cases e; exact fun e => by have := (HO.out.lt gb e.symm).1; have := HGA.out; omega))
          have HB8 := hid (HB.out.grown g8 HB.out.size (fun k hk => by have := (HO.out.lt k hk).1; have := HGA.out; omega))
          have HZ8 := hid (Nat.le_trans HZB.out g8.size)
          have HF3 := hid (show cntB F2 2 = cntB F 1 + 0 from hF3)
          have HRr := hid (HR0.out.below HB8.out (Nat.le_refl _))
          clear o8 g8 HO RA RBb HB R6 hF2 hF3
          go_wp2_with fail
          go_roundw
          case rel => exact ⟨2, F2, a8, c8, cntB F2 2, by omega, rfl, by rw [HF3.out, HN.out]; go_num, rfl, hid rfl, HO8, RA8, RB8, HB8, HZ8⟩
          case measure => simp [intOf]
      · refine (law_at cap (HR0.out.below HB.out (Nat.le_refl _)) (by omega) 2 (by omega)).mono ?_
        rintro e w9 ⟨e9, x, rfl⟩
        subst w9
        by_cases hx : x % 2 = 1
        · skip
          have hx2 : (x : Int) % 2 = 1 := by omega
          have hx3 : (((x : Int).tmod 2) == 1) = true := by rw [Int.tmod_eq_emod_of_nonneg (by omega)]; simp [hx2]
          have l5 : 128 ≤ cb := by omega
          have l6 : 192 ≤ cb := by omega
          have l4 : ¬ cb = 128 := by omega
          have l3 : (192 : Int) ≤ (cb : Int) := by omega
          have R6 := hid (reads_cut RBb.out 128 64 (by omega))
          have hcl := hid (show ((B.drop 128).take 64).length = 64 from by have := RBb.out.len; rw [List.length_take, List.length_drop]; omega)
          simp only [Nat.zero_add] at R6
          have hd1 : (bys ((B.drop 128).take 64)).length = 64 * 1 := by rw [bys_length, hcl.out]
          have HD1 := hid hd1
          clear hd1
          go_wp2_with (at_builtin; refine wpList_append_row rfl _ _ 22 rfl B0 5 k0' (.int .u8 0) 1 1 Try.underlying22 ki kz0 kz1 kz2 rfl (by decide) _ _ _ rfl HO.out (some ⟨gb, 128, none⟩) 64 (cb - 128) (bys ((B.drop 128).take 64)) rfl HD1.out (R6.out.news' (c := cb - 128) (fun e => by cases e)) (fun e => by cases e) (bys_one _) (by unfold maxLen; omega) (by omega) HZB.out ?_)
          intro a8 c8 w8 o8 g8
          obtain ⟨F2, hF2, hF3⟩ := pickS_more A B F 2 true
          have HO8 := hid (show w8.ownsRow B0 5 1 (.slice a8 192 c8) 192 (bys (pickS A B F2 3)) by rw [hF2]; simpa [bys_append] using o8)
          have RA8 := hid (RA.out.other g8 (fun a e => by cases e; exact fun e => by have := (HO.out.lt ga e.symm).1; have := HGA.out; omega))
          have RB8 := hid (RBb.out.other g8 (fun a e => by cases e; exact fun e => by have := (HO.out.lt gb e.symm).1; have := HGA.out; omega))
          have HB8 := hid (HB.out.grown g8 HB.out.size (fun k hk => by have := (HO.out.lt k hk).1; have := HGA.out; omega))
          have HZ8 := hid (Nat.le_trans HZB.out g8.size)
          have HF3 := hid (show cntB F2 3 = cntB F 2 + 1 from hF3)
          have HRr := hid (HR0.out.below HB8.out (Nat.le_refl _))
          clear o8 g8 HO RA RBb HB R6 hF2 hF3
          go_wp2_with fail
          go_roundw
          case rel => exact ⟨3, F2, a8, c8, cntB F2 3, by omega, rfl, by rw [HF3.out, HN.out]; go_num, rfl, hid rfl, HO8, RA8, RB8, HB8, HZ8⟩
          case measure => simp [intOf]
        · skip
          have hx2 : (x : Int) % 2 = 0 := by omega
          have hx3 : (((x : Int).tmod 2) == 1) = false := by rw [Int.tmod_eq_emod_of_nonneg (by omega)]; simp [hx2]
          have l5 : 128 ≤ ca := by omega
          have l6 : 192 ≤ ca := by omega
          have l4 : ¬ ca = 128 := by omega
          have l3 : (192 : Int) ≤ (ca : Int) := by omega
          have R6 := hid (reads_cut RA.out 128 64 (by omega))
          have hcl := hid (show ((A.drop 128).take 64).length = 64 from by have := RA.out.len; rw [List.length_take, List.length_drop]; omega)
          simp only [Nat.zero_add] at R6
          have hd1 : (bys ((A.drop 128).take 64)).length = 64 * 1 := by rw [bys_length, hcl.out]
          have HD1 := hid hd1
          clear hd1
          go_wp2_with (at_builtin; refine wpList_append_row rfl _ _ 22 rfl B0 5 k0' (.int .u8 0) 1 1 Try.underlying22 ki kz0 kz1 kz2 rfl (by decide) _ _ _ rfl HO.out (some ⟨ga, 128, none⟩) 64 (ca - 128) (bys ((A.drop 128).take 64)) rfl HD1.out (R6.out.news' (c := ca - 128) (fun e => by cases e)) (fun e => by cases e) (bys_one _) (by unfold maxLen; omega) (by omega) HZB.out ?_)
          intro a8 c8 w8 o8 g8
          obtain ⟨F2, hF2, hF3⟩ := pickS_more A B F 2 false
          have HO8 := hid (show w8.ownsRow B0 5 1 (.slice a8 192 c8) 192 (bys (pickS A B F2 3)) by rw [hF2]; simpa [bys_append] using o8)
          have RA8 := hid (RA.out.other g8 (fun a e => by cases e; exact fun e => by have := (HO.out.lt ga e.symm).1; have := HGA.out; omega))
          have RB8 := hid (RBb.out.other g8 (fun a e => by cases e; exact fun e => by have := (HO.out.lt gb e.symm).1; have := HGA.out; omega))
          have HB8 := hid (HB.out.grown g8 HB.out.size (fun k hk => by have := (HO.out.lt k hk).1; have := HGA.out; omega))
          have HZ8 := hid (Nat.le_trans HZB.out g8.size)
          have HF3 := hid (show cntB F2 3 = cntB F 2 + 0 from hF3)
          have HRr := hid (HR0.out.below HB8.out (Nat.le_refl _))
          clear o8 g8 HO RA RBb HB R6 hF2 hF3
          go_wp2_with fail
          go_roundw
          case rel => exact ⟨3, F2, a8, c8, cntB F2 3, by omega, rfl, by rw [HF3.out, HN.out]; go_num, rfl, hid rfl, HO8, RA8, RB8, HB8, HZ8⟩
          case measure => simp [intOf]
      · refine (law_at cap (HR0.out.below HB.out (Nat.le_refl _)) (by omega) 3 (by omega)).mono ?_
        rintro e w9 ⟨e9, x, rfl⟩
        subst w9
        by_cases hx : x % 2 = 1
        · skip
          have hx2 : (x : Int) % 2 = 1 := by omega
          have hx3 : (((x : Int).tmod 2) == 1) = true := by rw [Int.tmod_eq_emod_of_nonneg (by omega)]; simp [hx2]
          have l5 : 192 ≤ cb := by omega
          have l6 : 256 ≤ cb := by omega
          have l4 : ¬ cb = 192 := by omega
          have l3 : (256 : Int) ≤ (cb : Int) := by omega
          have R6 := hid (reads_cut RBb.out 192 64 (by omega))
          have hcl := hid (show ((B.drop 192).take 64).length = 64 from by have := RBb.out.len; rw [List.length_take, List.length_drop]; omega)
          simp only [Nat.zero_add] at R6
          have hd1 : (bys ((B.drop 192).take 64)).length = 64 * 1 := by rw [bys_length, hcl.out]
          have HD1 := hid hd1
          clear hd1
          go_wp2_with (at_builtin; refine wpList_append_row rfl _ _ 22 rfl B0 5 k0' (.int .u8 0) 1 1 Try.underlying22 ki kz0 kz1 kz2 rfl (by decide) _ _ _ rfl HO.out (some ⟨gb, 192, none⟩) 64 (cb - 192) (bys ((B.drop 192).take 64)) rfl HD1.out (R6.out.news' (c := cb - 192) (fun e => by cases e)) (fun e => by cases e) (bys_one _) (by unfold maxLen; omega) (by omega) HZB.out ?_)
          intro a8 c8 w8 o8 g8
          obtain ⟨F2, hF2, hF3⟩ := pickS_more A B F 3 true
          have HO8 := hid (show w8.ownsRow B0 5 1 (.slice a8 256 c8) 256 (bys (pickS A B F2 4)) by rw [hF2]; simpa [bys_append] using o8)
          have RA8 := hid (RA.out.other g8 (fun a e => by cases e; exact fun e => by have := (HO.out.lt ga e.symm).1; have := HGA.out; omega))
          have RB8 := hid (RBb.out.other g8 (fun a e => by cases e; exact fun e => by have := (HO.out.lt gb e.symm).1; have := HGA.out; omega))
          have HB8 := hid (HB.out.grown g8 HB.out.size (fun k hk => by have := (HO.out.lt k hk).1; have := HGA.out; omega))
          have HZ8 := hid (Nat.le_trans HZB.out g8.size)
          have HF3 := hid (show cntB F2 4 = cntB F 3 + 1 from hF3)
          have HRr := hid (HR0.out.below HB8.out (Nat.le_refl _))
          clear o8 g8 HO RA RBb HB R6 hF2 hF3
          go_wp2_with fail
          go_roundw
          case rel => exact ⟨4, F2, a8, c8, cntB F2 4, by omega, rfl, by rw [HF3.out, HN.out]; go_num, rfl, hid rfl, HO8, RA8, RB8, HB8, HZ8⟩
          case measure => simp [intOf]
        · skip
          have hx2 : (x : Int) % 2 = 0 := by omega
          have hx3 : (((x : Int).tmod 2) == 1) = false := by rw [Int.tmod_eq_emod_of_nonneg (by omega)]; simp [hx2]
          have l5 : 192 ≤ ca := by omega
          have l6 : 256 ≤ ca := by omega
          have l4 : ¬ ca = 192 := by omega
          have l3 : (256 : Int) ≤ (ca : Int) := by omega
          have R6 := hid (reads_cut RA.out 192 64 (by omega))
          have hcl := hid (show ((A.drop 192).take 64).length = 64 from by have := RA.out.len; rw [List.length_take, List.length_drop]; omega)
          simp only [Nat.zero_add] at R6
          have hd1 : (bys ((A.drop 192).take 64)).length = 64 * 1 := by rw [bys_length, hcl.out]
          have HD1 := hid hd1
          clear hd1
          go_wp2_with (at_builtin; refine wpList_append_row rfl _ _ 22 rfl B0 5 k0' (.int .u8 0) 1 1 Try.underlying22 ki kz0 kz1 kz2 rfl (by decide) _ _ _ rfl HO.out (some ⟨ga, 192, none⟩) 64 (ca - 192) (bys ((A.drop 192).take 64)) rfl HD1.out (R6.out.news' (c := ca - 192) (fun e => by cases e)) (fun e => by cases e) (bys_one _) (by unfold maxLen; omega) (by omega) HZB.out ?_)
          intro a8 c8 w8 o8 g8
          obtain ⟨F2, hF2, hF3⟩ := pickS_more A B F 3 false
          have HO8 := hid (show w8.ownsRow B0 5 1 (.slice a8 256 c8) 256 (bys (pickS A B F2 4)) by rw [hF2]; simpa [bys_append] using o8)
          have RA8 := hid (RA.out.other g8 (fun a e => by cases e; exact fun e => by have := (HO.out.lt ga e.symm).1; have := HGA.out; omega))
          have RB8 := hid (RBb.out.other g8 (fun a e => by cases e; exact fun e => by have := (HO.out.lt gb e.symm).1; have := HGA.out; omega))
          have HB8 := hid (HB.out.grown g8 HB.out.size (fun k hk => by have := (HO.out.lt k hk).1; have := HGA.out; omega))
          have HZ8 := hid (Nat.le_trans HZB.out g8.size)
          have HF3 := hid (show cntB F2 4 = cntB F 3 + 0 from hF3)
          have HRr := hid (HR0.out.below HB8.out (Nat.le_refl _))
          clear o8 g8 HO RA RBb HB R6 hF2 hF3
          go_wp2_with fail
          go_roundw
          case rel => exact ⟨4, F2, a8, c8, cntB F2 4, by omega, rfl, by rw [HF3.out, HN.out]; go_num, rfl, hid rfl, HO8, RA8, RB8, HB8, HZ8⟩
          case measure => simp [intOf]
    · obtain rfl : k = 4 := by omega
      obtain ⟨g5, c5', e0, _, _⟩ := HO.out.form (by omega)
      obtain ⟨rfl, _, rfl⟩ := Value.slice.inj e0
      have HO4 := hid (show wr.ownsRow B0 5 1 (.slice (some ⟨g5, 0, none⟩) 256 c5) 256 (bys (pickS A B F 4)) from HO.out)
      have hc5 := own_le HO4.out
      have hc6 : c5 ≤ 9223372036854775807 := by rcases HO4.out.2 with ⟨e, _⟩ | ⟨g', cap', cur, e, _, _, h1, h2, _⟩; cases e; (obtain ⟨_, _, rfl⟩ := Value.slice.inj e; exact h2)
      have R4 := hid ((reads_of HO4.out (pickS_bd HBA.out HBQ.out F 4)).1)
      have HM4 := hid (HMX.out F)
      have HN4 := hid HN.out
      obtain ⟨⟨RL, RS⟩, hRR⟩ : ∃ x, (readP (pickS A B F 4)).getD (0, []) = x := ⟨_, rfl⟩
      obtain ⟨ok, hok⟩ : ∃ ok, decide (cntB F 4 = 0 ∨ cntB F 4 = 4) = ok := ⟨_, rfl⟩
      obtain ⟨m4, hm4⟩ : ∃ m4, RS.length = m4 := ⟨_, rfl⟩
      have HRR := hid hRR
      have HM5 := hid (HM4.out.trans hok)
      have HM6 := hid hm4
      have HOK := hid hok
      clear hRR hok hm4 HO HO4 RA RBb e0 HMX HBA HBQ hLA hLQ
      go_wp2_with fail
      refine (impl_PageRead R4.out hc5 hc6 HRR.out HM5.out HM6.out).mono ?_
      rintro e w9 ⟨a9, c9, rfl, _, b⟩
      have bA := Below.alloc1 w9 (.cells #[.int .i64 RL, .slice a9 m4 c9] 26)
      replace HB := hid (HB.out.trans (b.mono HB.out.size))
      replace HB := hid (HB.out.trans (bA.mono HB.out.size))
      clear b bA R4
      rcases (show N = 0 ∨ N = 4 ∨ (N ≠ 0 ∧ N ≠ 4) by omega) with h0 | h0 | h0
      · have hk2 : ok = true := by rw [← HOK.out, ← HN4.out]; exact decide_eq_true (.inl h0)
        subst hk2
        subst h0
        clear HN HN4 HOK HM5
        go_wp2_with fail
        go_ret
        exact ⟨rfl, HB.out⟩
      · have hk2 : ok = true := by rw [← HOK.out, ← HN4.out]; exact decide_eq_true (.inr h0)
        subst hk2
        subst h0
        clear HN HN4 HOK HM5
        go_wp2_with fail
        go_ret
        exact ⟨rfl, HB.out⟩
      · have hk2 : ok = false := by rw [← HOK.out, ← HN4.out]; exact decide_eq_false (fun q => q.elim h0.1 h0.2)
        subst hk2
        have qa : ((N : Int) == 0) = false := by have := h0.1; simpa using this
        have qb : ((N : Int) == 4) = false := by have := h0.2; simp; omega
        clear HN HN4 HOK HM5 h0
        go_wp2_with fail
        go_ret
        exact ⟨rfl, HB.out⟩
end Go.Proofs.Ytioefplkadpfnaa
