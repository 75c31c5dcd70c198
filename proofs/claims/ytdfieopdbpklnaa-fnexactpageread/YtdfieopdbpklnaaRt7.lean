/- The contract of the specification's PageRead. Conditions: a slice as Go has them. -/
import Derived.Test.YtdfieopdbpklnaaRq7
import Derived.Test.YtdfieopdbpklnaaPg
namespace Go.Proofs.Ytdfieopdbpklnaa
open Go.RowKit
set_option maxRecDepth 100000

theorem read_ne {zs : List Int} {acc : List (List Int)} {L : Int} (hs : slotsZ (bodyZ zs 4) = some acc) (hL : numOf zs 0 4 = L) (h : bytesP L acc ≠ zs) : readP zs = none := by
  unfold readP
  split
  · rw [hs]; simp only; rw [hL, if_neg h]
  · rfl
theorem own_len {w : World} {B x y : Nat} {e : TypeId} {s : Nat} {v : Value} {xs : List Value} (o : w.ownsRow B e s v x xs) (h : x = y) : w.ownsRow B e s v y xs := h ▸ o

set_option maxHeartbeats 12800000 in
theorem spec_PageRead {a : Option Addr} {n0 c : Nat} {zs : List Int} {w : World} (h : Reads w a n0 zs) (hc : n0 ≤ c) (hc2 : c ≤ 9223372036854775807)
    {RL : Int} {RS : List (List Int)} {ok : Bool} {m : Nat} (hR : (readP zs).getD (0, []) = (RL, RS)) (hk : (readP zs).isSome = ok) (hm : RS.length = m) :
    Calls Try.prog 38 #[.slice a n0 c] w fun e w' => ∃ a' c', e = .returned (.tuple #[.agg #[.int .i64 RL, .slice a' m c'], .bool ok]) ∧ OwnP w' w.heap.size w'.heap.size (.slice a' m c') RS ∧ Below w.heap.size w w' := by
  obtain ⟨i0, hi, hz0, hz1, hz2⟩ := info_parts Try.info22
  obtain ⟨k0', ki, kz0, kz1, kz2⟩ := info_parts Try.info5
  have HR := hid hR
  have HK := hid hk
  have HM := hid hm
  clear hR hk hm
  have HB := hid (two w (.cells #[.int .i64 0, .slice none 0 0] 26) (.cells #[.int .i64 0, .slice none 0 0] 26))
  have R0 := hid (((Below.alloc1 (w.alloc (.cells #[.int .i64 0, .slice none 0 0] 26)) (.cells #[.int .i64 0, .slice none 0 0] 26)).block _ (by simp)).trans (heap_alloc_new w (.cells #[.int .i64 0, .slice none 0 0] 26)))
  have R1 := hid (heap_new2 w (.cells #[.int .i64 0, .slice none 0 0] 26) (.cells #[.int .i64 0, .slice none 0 0] 26))
  have HSZ := hid (show ((w.alloc (.cells #[.int .i64 0, .slice none 0 0] 26)).alloc (.cells #[.int .i64 0, .slice none 0 0] 26)).heap.size = w.heap.size + 2 by simp)
  have HRD := hid (h.below HB.out (Nat.le_refl _))
  have HRW := hid h
  have HZL := hid h.len
  have HBD := hid (show bdZ zs from h.bd)
  by_cases hn : n0 ≠ 256
  · have hn' : ((n0 : Int) == 256) = false := by simp; omega
    have hn2 : ¬ (n0 : Int) = 256 := by omega
    have HN := hid (show readP zs = none from read_none_len (by rw [HZL.out]; exact hn))
    go_enter Try.func38, Try.ntmps38
    go_wp2_with (first
      | (refine wpList_load_row rfl 26 (.tmp 4) rfl (w.heap.size + 1) rfl 26 _ (0, 0) _ R1.out Try.underlying26 rfl size_pg ?_)
      | (refine wpList_store_row rfl 26 (.tmp 2) (.tmp 14) rfl w.heap.size #[.int .i64 0, .slice none 0 0] rfl rfl 26 _ R0.out ?s1 ?s2 ?s3 ?_))
    case s1 => exact size_pg
    case s2 => rfl
    case s3 => simp [Value.oneCell']
    obtain ⟨rfl, rfl⟩ : 0 = RL ∧ [] = RS := Prod.mk.inj ((show (readP zs).getD (0, []) = (0, []) by rw [HN.out]; rfl).symm.trans HR.out)
    obtain rfl : false = ok := (show (readP zs).isSome = false by rw [HN.out]; rfl).symm.trans HK.out
    obtain rfl : 0 = m := HM.out
    exact bodyPost_ret (results_cell_tmp7 Try.results38 _ _ w.heap.size 26 _ (0, 0) _ rfl (setRow_heap _ _ _ _ _ _ R0.out) Try.underlying26 rfl size_pg) rfl ⟨none, 0, rfl, OwnP.nil _ _ _, below_setRow HB.out (by omega) _⟩
  replace hn := Decidable.not_not.1 hn
  subst hn
  obtain ⟨b, off, rfl, hbl⟩ : ∃ b off, a = some ⟨b, off, none⟩ ∧ b < w.heap.size := by
    rcases h.cells with h0 | ⟨b, off, e, hcc⟩
    · omega
    · exact ⟨b, off, e, by have := hcc 0 (by omega); exact World.block_lt_of_cell? w _ this⟩
  have HBL := hid hbl
  clear h hbl
  go_enter Try.func38, Try.ntmps38
  go_wp2_with fail
  generalize (w.alloc (.cells #[.int .i64 0, .slice none 0 0] 26)).alloc (.cells #[.int .i64 0, .slice none 0 0] 26) = W at *
  refine (spec_GetNum c HRD.out (by omega) 0 4 (by omega) (by omega) (by omega)).mono ?_
  rintro e w1 ⟨rfl, e1⟩
  subst w1
  obtain ⟨L, hL⟩ : ∃ L, numOf zs 0 4 = L := ⟨_, rfl⟩
  rw [hL]
  have HLN := hid hL
  clear hL
  have HL := hid (show Liv W W.heap.size (w.heap.size + 1) 0 none 0 0 [] [] from ⟨R1.out, World.ownsRow_nil _ _ _ _, Bands.nil _ _ _, rfl⟩)
  obtain ⟨x0, x1⟩ := HL.out.box
  have xf := HL.out.fz 0
  have HL1 := hid (HL.out.lsn L)
  have R2 := hid ((heap_set_ne W (w.heap.size + 1) 0 w.heap.size (.int .i64 L) (by omega)).trans R0.out)
  have HB2 := hid (HB.out.setCell (p := ⟨w.heap.size + 1, 0, none⟩) (by simp) (.int .i64 L))
  have ZS := hid (show (W.setCell ⟨w.heap.size + 1, 0, none⟩ (.int .i64 L)).heap.size = w.heap.size + 2 by simp only [set_size]; exact HSZ.out)
  clear HL HB R0 HRD R1
  go_wp2_with fail
  clear x0 x1 xf
  generalize W.setCell ⟨w.heap.size + 1, 0, none⟩ (.int .i64 L) = U at *
  go_loopw [5, 6] (fun s i wr => ∃ (k : Nat) (a5 : Option Addr) (c5 : Nat), k ≤ 4 ∧ i = .int .i64 ((64 * k : Nat) : Int) ∧ s = .slice a5 (60 * k) c5 ∧ Hid (wr.ownsRow U.heap.size 5 1 (.slice a5 (60 * k) c5) (60 * k) (bys (bodyZ zs k))) ∧ Hid (Below U.heap.size U wr)) (fun _ i _ => 256 - (intOf i).toNat)
  case atStart => exact ⟨0, none, 0, by omega, rfl, rfl, hid (World.ownsRow_nil _ _ _ _), hid (Below.refl _ _)⟩
  case round =>
    obtain ⟨k, a5, c5, hk, rfl, rfl, HO, HW⟩ := hrel
    by_cases hlt4 : k < 4
    · obtain ⟨q, hq⟩ : ∃ q, 64 * k = q := ⟨_, rfl⟩
      have HQ := hid hq
      obtain ⟨N5, hN5⟩ : ∃ N5, 60 * k = N5 := ⟨_, rfl⟩
      have HN5 := hid hN5
      have hq256 : q + 64 ≤ 256 := by omega
      have hN192 : N5 ≤ 180 := by omega
      rw [hN5] at HO ⊢
      rw [hq]
      clear hq hN5
      have l1 : (q : Int) < 256 := by omega
      have l2 : (0 : Int) ≤ (q : Int) := by omega
      have l3 : (q : Int) + 64 ≤ (c : Int) := by omega
      have l4 : ¬ c = q + 4 := by omega
      have l5 : q + 4 ≤ c := by omega
      have l6 : q + 64 ≤ c := by omega
      have R6 := hid (reads_cut (HRW.out.below (HB2.out.trans (HW.out.mono HB2.out.size)) (Nat.le_refl _)) (q + 4) 60 (by omega))
      have hcl := hid (show ((zs.drop (q + 4)).take 60).length = 60 from cut_len (by rw [HZL.out]; omega))
      go_wp2_with (at_builtin; refine wpList_append_row rfl _ _ 22 rfl U.heap.size 5 k0' (.int .u8 0) 1 1 Try.underlying22 ki kz0 kz1 kz2 rfl (by decide) _ _ _ rfl HO.out (some ⟨b, off + (q + 4), none⟩) (q + 64 - (q + 4)) (c - (q + 4)) (bys ((zs.drop (q + 4)).take 60)) rfl ?d1 (R6.out.news' (c := c - (q + 4)) (fun e => by cases e)) ?d5 ?d2 ?d3 ?d4 ?d6 ?_)
      case d1 => rw [bys_length, hcl.out]; omega
      case d5 => exact fun e => by cases e
      case d2 => exact bys_one _
      case d3 => unfold maxLen; omega
      case d4 => omega
      case d6 => exact HW.out.size
      intro a8 c8 w8 o8 g8
      replace HW := hid (HW.out.grown g8 HW.out.size (fun k hk => (HO.out.lt k hk).1))
      have HO8 := hid (show w8.ownsRow U.heap.size 5 1 (.slice a8 (60 * (k + 1)) c8) (60 * (k + 1)) (bys (bodyZ zs (k + 1))) by
        have e : N5 + 60 = 60 * (k + 1) := by have := HN5.out; omega
        simp only [bodyZ, secB_at, bys_append, HQ.out]
        rw [e] at o8
        exact o8)
      have e9 : N5 + 60 = 60 * (k + 1) := by have := HN5.out; omega
      rw [e9]
      clear o8 g8 HO R6 e9
      go_wp2_with fail
      go_roundw
      case rel => exact ⟨k + 1, a8, c8, by omega, by have := HQ.out; go_num, rfl, HO8, HW⟩
      case measure => have := HQ.out; simp [intOf]; omega
    · obtain rfl : k = 4 := by omega
      clear hlt4 hk
      have HBBD := hid (show bdZ (bodyZ zs 4) from bodyZ_bd HBD.out 4)
      obtain ⟨gb, cb, e0, hgb, hgb2⟩ := HO.out.form (by omega)
      obtain ⟨rfl, _, rfl⟩ := Value.slice.inj e0
      have hcb : 240 ≤ c5 ∧ c5 ≤ 9223372036854775807 := by
        rcases HO.out.2 with ⟨e, _⟩ | ⟨g', cap, cur, e, _, _, h1, h2, _⟩
        · cases e
        · obtain ⟨_, _, rfl⟩ := Value.slice.inj e
          exact ⟨h1, h2⟩
      obtain ⟨hcb1, hcb2⟩ := hcb
      have RB := hid (show Reads wr (some ⟨gb, 0, none⟩) 240 (bodyZ zs 4) by
        obtain ⟨x, y, e, r, _⟩ := Reads.own HO.out HBBD.out
        obtain ⟨rfl, _, _⟩ := Value.slice.inj e
        exact r)
      have HGB := hid (show w.heap.size + 2 ≤ gb ∧ gb < wr.heap.size by have := ZS.out; omega)
      have HL := hid (show Liv wr wr.heap.size (w.heap.size + 1) L none 0 0 [] [] from ⟨(HW.out.block _ (by have := ZS.out; omega)).trans HL1.out.row, World.ownsRow_nil _ _ _ _, Bands.nil _ _ _, rfl⟩)
      have R0 := hid ((HW.out.block _ (by have := ZS.out; omega)).trans R2.out)
      have HB := hid (HB2.out.trans (HW.out.mono HB2.out.size))
      have LO := hid (show w.heap.size + 2 ≤ wr.heap.size by have := ZS.out; have := HW.out.size; omega)
      clear e0 hgb hgb2 HO HL1 R2 HB2 HW ZS
      generalize wr = V at *
      obtain ⟨BB, hBB⟩ : ∃ BB, bodyZ zs 4 = BB := ⟨_, rfl⟩
      rw [hBB] at RB HBBD
      have HBB := hid hBB
      have HLB := hid (show BB.length = 240 from RB.out.len)
      obtain ⟨n, hn⟩ : ∃ n, lenB BB 0 = n := ⟨_, rfl⟩
      have hn255 : n ≤ 255 := by rw [← hn]; exact (lenB_cast HBBD.out 0).2
      have HN0 := hid hn
      have hcx : V.cell? ⟨gb, 0, none⟩ = some (.int .u8 (n : Int)) := by
        rcases RB.out.cells with h0 | ⟨b', o', e, hcc⟩
        · omega
        · cases e
          rw [← hn, ← (lenB_cast HBBD.out 0).1]
          simpa using hcc 0 (by omega)
      have hw := wrap64 n hn255
      clear hBB hn
      go_wp2_with fail
      clear hcx hw
      go_loopw [8, 9] (fun s i wr => ∃ (j p : Nat) (acc : List (List Int)) (a' : Option Addr) (c' : Nat) (xs : List Value), j ≤ n ∧ p ≤ 256 ∧ i = .int .i64 j ∧ s = .int .i64 p ∧ Hid (cutA BB j = some (acc, p)) ∧ Hid (p ≤ 240 ∧ n ≤ 239 ∨ j = 0 ∧ p = 1 + n) ∧ Hid (Liv wr V.heap.size (w.heap.size + 1) L a' j c' xs acc) ∧ Hid (wr.heap[w.heap.size]? = some (.cells #[.int .i64 0, .slice none 0 0] 26 (0, 0))) ∧ Hid (Below w.heap.size w wr) ∧ Hid (Reads wr (some ⟨gb, 0, none⟩) 240 BB) ∧ Hid (V.heap.size ≤ wr.heap.size)) (fun _ i _ => n - (intOf i).toNat)
      case atStart => exact ⟨0, 1 + n, [], none, 0, [], Nat.zero_le _, by omega, rfl, by go_num, hid (by simp only [cutA, HN0.out]), hid (.inr ⟨rfl, rfl⟩), HL, R0, HB, RB, hid (Nat.le_refl _)⟩
      case round =>
        clear HL R0 HB RB
        obtain ⟨j, p, acc, a', c', xs, hj, hp256, rfl, rfl, HC, HNJ, HL, R0, HB, RB, HZV⟩ := hrel
        by_cases hlt : j < n
        · have hlt' : (j : Int) < (n : Int) := by omega
          have hj240 : 1 + j < 240 := by rcases HNJ.out with h | h <;> omega
          have hj' : 1 + (j : Int) < 240 := by omega
          have hj0 : (0 : Int) ≤ 1 + (j : Int) := by omega
          obtain ⟨k, hk⟩ : ∃ k, lenB BB (1 + j) = k := ⟨_, rfl⟩
          have hk255 : k ≤ 255 := by rw [← hk]; exact (lenB_cast HBBD.out _).2
          have HK1 := hid hk
          have hcx : wr.cell? ⟨gb, 1 + j, none⟩ = some (.int .u8 (k : Int)) := by
            rcases RB.out.cells with h0 | ⟨b', o', e, hcc⟩
            · omega
            · cases e
              rw [← hk, ← (lenB_cast HBBD.out (1 + j)).1]
              simpa using hcc (1 + j) (by omega)
          have hw := wrap64 k hk255
          clear hk
          by_cases hp : 240 < p
          · have hp' : (240 : Int) < (p : Int) := by omega
            have HN := hid (show readP zs = none from read_none_slots (by rw [HBB.out]; exact slotsZ_no1 (by rw [HN0.out, HLB.out]; rcases HNJ.out with h | h <;> omega)))
            have T1 := heap_setCell_same wr w.heap.size 0 _ 26 (.int .i64 0) R0.out
            have T2 := hid (heap_setCell_same _ w.heap.size 1 _ 26 (.slice none 0 0) T1)
            have B6 := hid ((HB.out.setCell (p := ⟨w.heap.size, 0, none⟩) (by simp) (.int .i64 0)).setCell (p := ⟨w.heap.size, 1, none⟩) (by simp) (.slice none 0 0))
            have r0 : wr.cell? ⟨w.heap.size, 0, none⟩ = some (.int .i64 0) := cell_of_row _ _ 0 _ _ _ R0.out
            have r1 : wr.cell? ⟨w.heap.size, 1, none⟩ = some (.slice none 0 0) := cell_of_row _ _ 1 _ _ _ R0.out
            have rf0 : wr.frozen? ⟨w.heap.size, 0, none⟩ = false := frozen_of_row _ _ _ _ _ R0.out
            have rf1 : wr.frozen? ⟨w.heap.size, 1, none⟩ = false := frozen_of_row _ _ _ _ _ R0.out
            clear T1
            go_wp2_with fail
            obtain ⟨rfl, rfl⟩ : 0 = RL ∧ [] = RS := Prod.mk.inj ((show (readP zs).getD (0, []) = (0, []) by rw [HN.out]; rfl).symm.trans HR.out)
            obtain rfl : false = ok := (show (readP zs).isSome = false by rw [HN.out]; rfl).symm.trans HK.out
            obtain rfl : 0 = m := HM.out
            exact bodyPost_ret (results_cell_tmp7 Try.results38 _ _ w.heap.size 26 _ (0, 0) _ rfl T2.out Try.underlying26 rfl size_pg) rfl ⟨none, 0, rfl, OwnP.nil _ _ _, B6.out⟩

          have hp' : ¬ (240 : Int) < (p : Int) := by omega
          by_cases hpk : 240 < p + k
          · have hpk' : (240 : Int) - (p : Int) < (k : Int) := by omega
            have HN := hid (show readP zs = none from read_none_slots (by rw [HBB.out]; exact slotsZ_no2 (j := j + 1) (by rw [HN0.out]; omega) (cutA_stop HC.out (by rw [HK1.out, HLB.out]; omega))))
            have T1 := heap_setCell_same wr w.heap.size 0 _ 26 (.int .i64 0) R0.out
            have T2 := hid (heap_setCell_same _ w.heap.size 1 _ 26 (.slice none 0 0) T1)
            have B6 := hid ((HB.out.setCell (p := ⟨w.heap.size, 0, none⟩) (by simp) (.int .i64 0)).setCell (p := ⟨w.heap.size, 1, none⟩) (by simp) (.slice none 0 0))
            have r0 : wr.cell? ⟨w.heap.size, 0, none⟩ = some (.int .i64 0) := cell_of_row _ _ 0 _ _ _ R0.out
            have r1 : wr.cell? ⟨w.heap.size, 1, none⟩ = some (.slice none 0 0) := cell_of_row _ _ 1 _ _ _ R0.out
            have rf0 : wr.frozen? ⟨w.heap.size, 0, none⟩ = false := frozen_of_row _ _ _ _ _ R0.out
            have rf1 : wr.frozen? ⟨w.heap.size, 1, none⟩ = false := frozen_of_row _ _ _ _ _ R0.out
            clear T1
            go_wp2_with fail
            obtain ⟨rfl, rfl⟩ : 0 = RL ∧ [] = RS := Prod.mk.inj ((show (readP zs).getD (0, []) = (0, []) by rw [HN.out]; rfl).symm.trans HR.out)
            obtain rfl : false = ok := (show (readP zs).isSome = false by rw [HN.out]; rfl).symm.trans HK.out
            obtain rfl : 0 = m := HM.out
            exact bodyPost_ret (results_cell_tmp7 Try.results38 _ _ w.heap.size 26 _ (0, 0) _ rfl T2.out Try.underlying26 rfl size_pg) rfl ⟨none, 0, rfl, OwnP.nil _ _ _, B6.out⟩

          have hpk' : ¬ (240 : Int) - (p : Int) < (k : Int) := by omega
          have HC2 := hid (cutA_some HC.out (by rw [HK1.out, HLB.out]; omega))
          obtain ⟨zk, hzk⟩ : ∃ zk, (BB.drop p).take k = zk := ⟨_, rfl⟩
          rw [HK1.out, hzk] at HC2
          have RZ := hid (reads_cut RB.out p k (by omega))
          rw [hzk] at RZ
          simp only [Nat.zero_add] at RZ
          have HZK := hid (show zk.length = k from RZ.out.len)
          have HZB := hid RZ.out.bd
          clear hzk
          obtain ⟨x0, x1⟩ := HL.out.box
          have xf := HL.out.fz 1
          have HLT := hid HL.out.lt
          have HK' := hid (show ∀ X, Below wr.heap.size wr X → X.cell? ⟨w.heap.size + 1, 1, none⟩ = some (.slice a' j c') ∧ X.frozen? ⟨w.heap.size + 1, 1, none⟩ = false from fun X bb => ⟨(bb.cell (p := ⟨w.heap.size + 1, 1, none⟩) HLT.out).trans x1, (bb.frozen (p := ⟨w.heap.size + 1, 1, none⟩) HLT.out).trans xf⟩)
          have HNE := hid (show some (w.heap.size + 1) ≠ (Value.slice a' j c').ownBlock from own_nk HL.out.own HL.out.row (by decide))
          have HNR := hid (show some w.heap.size ≠ (Value.slice a' j c').ownBlock from own_nk HL.out.own R0.out (by decide))
          have HNB := hid (show some gb ≠ (Value.slice a' j c').ownBlock from fun e => by have := (HL.out.own.lt _ e.symm).1; have := HGB.out; omega)
          have H0 := hid (World.ownsRow_lit (base := wr.heap.size) (e := 5) (size := 1) wr #[] 0 (Nat.le_refl _) (Nat.zero_le _) rfl)
          have l1 : (0 : Int) ≤ (p : Int) := by omega
          have l3 : (p : Int) + (k : Int) ≤ (c5 : Int) := by omega
          have l5 : p ≤ c5 := by omega
          have l6 : p + k ≤ c5 := by omega
          have l7 : (p : Int) ≤ (p : Int) + (k : Int) := by omega
          by_cases l4 : c5 = p
          · have hk00 : k = 0 := by omega
            have RZ2 := hid (show Reads wr (some ⟨gb, 0, none⟩) k zk from ⟨HZK.out, .inl hk00, HZB.out⟩)
            clear RZ
            subst hk00
            obtain rfl : c5 = p := l4
            go_wp2_with fail
            clear hcx hw x0 x1 xf
            have lw : IntKind.i64.wrap (c5 : Int) = (c5 : Int) := by simp [IntKind.wrap, IntKind.bits, IntKind.signed]; omega
            refine region_K 13 (fun W => W.cell? ⟨(w.heap.size + 1), 1, none⟩ = some (.slice a' j c') ∧ W.frozen? ⟨(w.heap.size + 1), 1, none⟩ = false) (by kernel_rfl) ?_ (fun hHeld => ?_)
            · exact HK'.out _ ((Below.refl _ wr).drew)
            refine anyK_take (i := 0) (v := ?v721) rfl (by kernel_rfl) (by kernel_rfl) (by kernel_rfl) (by kernel_rfl) (fun _ _ _ h => h) (by rfl) hHeld ?hy721 (some 72) (by rfl) ?rest721
            case hy721 => (intro W hSw; (try dsimp only at hSw); go_simp; (try with_reducible rfl))
            try simp only [Act.put]
            try simp only [List.setIfInBounds_toArray]
            try simp only [List.set_cons_succ, List.set_cons_zero]
            refine anyK_take (i := 1) (v := ?v722) rfl (by kernel_rfl) (by kernel_rfl) (by kernel_rfl) (by kernel_rfl) (fun _ _ _ h => h) (by rfl) hHeld ?hy722 (some 73) (by rfl) ?rest722
            case hy722 => (intro W hSw; (try dsimp only at hSw); go_simp; (try with_reducible rfl))
            try simp only [Act.put]
            try simp only [List.setIfInBounds_toArray]
            try simp only [List.set_cons_succ, List.set_cons_zero]
            refine anyK_take (i := 3) (v := ?v723) rfl (by kernel_rfl) (by kernel_rfl) (by kernel_rfl) (by kernel_rfl) (fun _ _ _ h => h) (by rfl) hHeld ?hy723 (some 75) (by rfl) ?rest723
            case hy723 => (intro W hSw; (try dsimp only at hSw); go_simp; (try with_reducible rfl))
            try simp only [Act.put]
            try simp only [List.setIfInBounds_toArray]
            try simp only [List.set_cons_succ, List.set_cons_zero]
            refine anyK_take (i := 4) (v := ?v724) rfl (by kernel_rfl) (by kernel_rfl) (by kernel_rfl) (by kernel_rfl) (fun _ _ _ h => h) (by rfl) hHeld ?hy724 (some 76) (by rfl) ?rest724
            case hy724 => (intro W hSw; (try dsimp only at hSw); go_simp; (try with_reducible rfl))
            try simp only [Act.put]
            try simp only [List.setIfInBounds_toArray]
            try simp only [List.set_cons_succ, List.set_cons_zero]
            refine anyK_take (i := 5) (v := ?v725) rfl (by kernel_rfl) (by kernel_rfl) (by kernel_rfl) (by kernel_rfl) (fun _ _ _ h => h) (by rfl) hHeld ?hy725 (some 77) (by rfl) ?rest725
            case hy725 => (intro W hSw; (try dsimp only at hSw); go_simp; (try with_reducible rfl))
            try simp only [Act.put]
            try simp only [List.setIfInBounds_toArray]
            try simp only [List.set_cons_succ, List.set_cons_zero]
            refine anyK_take (i := 6) (v := ?v726) rfl (by kernel_rfl) (by kernel_rfl) (by kernel_rfl) (by kernel_rfl) (fun _ _ _ h => h) (by rfl) hHeld ?hy726 (some 78) (by rfl) ?rest726
            case hy726 => (intro W hSw; (try dsimp only at hSw); go_simp; (try with_reducible rfl))
            try simp only [Act.put]
            try simp only [List.setIfInBounds_toArray]
            try simp only [List.set_cons_succ, List.set_cons_zero]
            refine anyK_take (i := 7) (v := ?v727) rfl (by kernel_rfl) (by kernel_rfl) (by kernel_rfl) (by kernel_rfl) (fun _ _ _ h => h) (by rfl) hHeld ?hy727 (some 79) (by rfl) ?rest727
            case hy727 => (intro W hSw; (try dsimp only at hSw); go_simp; (try with_reducible rfl))
            try simp only [Act.put]
            try simp only [List.setIfInBounds_toArray]
            try simp only [List.set_cons_succ, List.set_cons_zero]
            refine anyK_take (i := 8) (v := ?v728) rfl (by kernel_rfl) (by kernel_rfl) (by kernel_rfl) (by kernel_rfl) (fun _ _ _ h => h) (by rfl) hHeld ?hy728 (some 80) (by rfl) ?rest728
            case hy728 => (intro W hSw; (try dsimp only at hSw); go_simp; (try with_reducible rfl))
            try simp only [Act.put]
            try simp only [List.setIfInBounds_toArray]
            try simp only [List.set_cons_succ, List.set_cons_zero]
            refine anyK_step (i := 2) (by kernel_rfl) rfl (fun K hK => ?_)
            go_simp
            refine hK.out _ _ ?_ (fun hH2 => ?_)
            · exact HK'.out _ ((bel_al (Below.refl _ wr) _).drew)
            clear hK K hHeld
            have hHeld := hH2
            clear hH2
            try simp only [Act.put]
            try simp only [List.setIfInBounds_toArray]
            try simp only [List.set_cons_succ, List.set_cons_zero]
            refine anyK_step (i := 9) (by kernel_rfl) rfl (fun K hK => ?_)
            refine step_append_row (by rfl) _ _ _ (by rfl) wr.heap.size 5 k0' (.int .u8 0) 1 1 Try.underlying22 ki kz0 kz1 kz2 rfl (by omega) (.slice (some ⟨wr.heap.size, 0, none⟩) 0 0) 0 [] (by rfl) (by simpa using H0.out.drew) (some ⟨gb, 0, none⟩) (0) (0) (bys zk) (by rfl) (by rw [bys_length, HZK.out]) ((RZ2.out.below (bel_al (Below.refl _ wr) _).drew (Nat.le_refl _)).news' (fun e => by cases e)) (fun e => by cases e) (bys_one _) (by unfold maxLen; omega) (by omega) (by simp) ?_
            intro av cv u hob hgb
            simp only [Nat.zero_add, List.nil_append] at hob
            have bu := ((bel_al (Below.refl wr.heap.size wr) (.cells #[] 5)).drew).grown hgb (by simp) (fun q hq => by cases hq; exact Nat.le_refl _)
            have HO1 := hid hob
            have HBU := hid bu
            clear hob hgb bu
            simp only [Nat.zero_add]
            refine hK.out _ _ ?_ (fun hH2 => ?_)
            · exact HK'.out _ HBU.out
            clear hK K hHeld
            have hHeld := hH2
            clear hH2
            try simp only [Act.put]
            try simp only [List.setIfInBounds_toArray]
            try simp only [List.set_cons_succ, List.set_cons_zero]
            refine anyK_step (i := 10) (by kernel_rfl) rfl (fun K hK => ?_)
            go_simp
            refine hK.out _ _ ?_ (fun hH2 => ?_)
            · exact HK'.out _ (bel_al HBU.out _)
            clear hK K hHeld
            have hHeld := hH2
            clear hH2
            try simp only [Act.put]
            try simp only [List.setIfInBounds_toArray]
            try simp only [List.set_cons_succ, List.set_cons_zero]
            refine anyK_step (i := 11) (by kernel_rfl) rfl (fun K hK => ?_)
            refine step_append_row (by rfl) _ _ _ (by rfl) V.heap.size 22 i0 (.slice none 0 0) 1 24 Try.underlying24 hi hz0 hz1 hz2 rfl (by omega) (.slice a' j c') j xs (by rfl) (owns_below (bel_al HBU.out _) (Nat.le_refl _) HL.out.own) (some ⟨u.heap.size, 0, none⟩) 1 1 [.slice av (0) cv] (by rfl) rfl (.inr ⟨_, rfl, World.news_of_block (heap_alloc_new u _)⟩) (fun e => by cases e) (by simp [Value.oneCell']) (by unfold maxLen; omega) (by omega) (by have := HZV.out; have := HBU.out.size; simp; omega) ?_
            intro g' cap w1 hown1 hgrow
            obtain ⟨s1, s2⟩ := HK'.out _ (bel_al HBU.out (.cells #[.slice av (0) cv] 22))
            have k0 := hgrow.cell s1 HNE.out
            have k1 := (hgrow.frozen_far ⟨(w.heap.size + 1), 1, none⟩ (Nat.lt_of_lt_of_le HLT.out (bel_al HBU.out (.cells #[.slice av (0) cv] 22)).size) HNE.out).trans s2
            clear s1 s2
            refine hK.out _ _ ?_ (fun hH2 => ?_)
            · exact ⟨k0, k1⟩
            clear hK K hHeld
            have hHeld := hH2
            clear hH2
            try simp only [Act.put]
            try simp only [List.setIfInBounds_toArray]
            try simp only [List.set_cons_succ, List.set_cons_zero]
            refine anyK_take (i := 12) (v := ?v733) rfl (by kernel_rfl) (by kernel_rfl) (by kernel_rfl) (by kernel_rfl) (fun _ _ _ h => h) (by rfl) hHeld ?hy733 (some 84) (by rfl) ?rest733
            case hy733 => (intro W hSw; (try dsimp only at hSw); go_simp; (try with_reducible rfl))
            try simp only [Act.put]
            try simp only [List.setIfInBounds_toArray]
            try simp only [List.set_cons_succ, List.set_cons_zero]
            refine anyK_last (by kernel_rfl) rfl (fun K hK => ?_)
            go_simp
            refine hK.out _ _ ?_
            clear hK K hHeld
            refine anyK_done (by kernel_rfl) ?_ _
            clear lw
            have bX := bel_al HBU.out (.cells #[.slice av (0) cv] 22)
            have L2 := HL.out.grow (v := .slice av (0) cv) (z := zk) bX (by have := HZV.out; omega) (by rw [HZK.out]; exact (own_len HO1.out (show 0 = 0 from rfl)).alloc _) HZB.out hown1 hgrow
            have HL2 := hid L2
            have R2 := hid (HL.out.grow_at (a2 := g') (c2 := cap) bX hgrow R0.out HNR.out (by omega))
            have B2 := hid (((HB.out.trans (bX.mono HB.out.size)).grown hgrow (Nat.le_trans HB.out.size bX.size) (fun q hq => by have := (HL.out.own.lt q hq).1; have := LO.out; omega)).setCell (p := ⟨(w.heap.size + 1), 1, none⟩) (by simp) (.slice g' (j + 1) cap))
            have RB2 := hid (((RB.out.below bX (Nat.le_refl _)).other hgrow (fun a e => by cases e; exact HNB.out)).other (grown_set7 w1 (w.heap.size + 1) 1 (.slice g' (j + 1) cap)) (fun a e => by cases e; exact (show some gb ≠ some (w.heap.size + 1) from fun e => by have e2 := Option.some.inj e; have := HGB.out; omega)))
            have Z2 := hid (show V.heap.size ≤ (w1.setCell ⟨(w.heap.size + 1), 1, none⟩ (.slice g' (j + 1) cap)).heap.size by have := HZV.out; have := bX.size; have := hgrow.size; simp only [set_size]; omega)
            clear bX L2 hown1 hgrow k0 k1 HL R0 HB RB HZV HK' HBU HO1 H0 HNE HNR HNB
            go_wp2_with fail
            go_roundw
            case rel => exact ⟨j + 1, c5, acc ++ [zk], g', cap, xs ++ [.slice av (0) cv], by omega, by omega, by go_num, by go_num, HC2, hid (.inl ⟨by omega, by rcases HNJ.out with h | h <;> omega⟩), HL2, R2, B2, RB2, Z2⟩
            case measure => simp [intOf]; omega

          go_wp2_with fail
          clear hcx hw x0 x1 xf
          have lw : IntKind.i64.wrap ((p : Int) + (k : Int)) = (p : Int) + (k : Int) := by simp [IntKind.wrap, IntKind.bits, IntKind.signed]; omega
          refine region_K 13 (fun W => W.cell? ⟨(w.heap.size + 1), 1, none⟩ = some (.slice a' j c') ∧ W.frozen? ⟨(w.heap.size + 1), 1, none⟩ = false) (by kernel_rfl) ?_ (fun hHeld => ?_)
          · exact HK'.out _ ((Below.refl _ wr).drew)
          refine anyK_take (i := 0) (v := ?v707) rfl (by kernel_rfl) (by kernel_rfl) (by kernel_rfl) (by kernel_rfl) (fun _ _ _ h => h) (by rfl) hHeld ?hy707 (some 72) (by rfl) ?rest707
          case hy707 => (intro W hSw; (try dsimp only at hSw); go_simp; (try with_reducible rfl))
          try simp only [Act.put]
          try simp only [List.setIfInBounds_toArray]
          try simp only [List.set_cons_succ, List.set_cons_zero]
          refine anyK_take (i := 1) (v := ?v708) rfl (by kernel_rfl) (by kernel_rfl) (by kernel_rfl) (by kernel_rfl) (fun _ _ _ h => h) (by rfl) hHeld ?hy708 (some 73) (by rfl) ?rest708
          case hy708 => (intro W hSw; (try dsimp only at hSw); go_simp; (try with_reducible rfl))
          try simp only [Act.put]
          try simp only [List.setIfInBounds_toArray]
          try simp only [List.set_cons_succ, List.set_cons_zero]
          refine anyK_take (i := 3) (v := ?v709) rfl (by kernel_rfl) (by kernel_rfl) (by kernel_rfl) (by kernel_rfl) (fun _ _ _ h => h) (by rfl) hHeld ?hy709 (some 75) (by rfl) ?rest709
          case hy709 => (intro W hSw; (try dsimp only at hSw); go_simp; (try with_reducible rfl))
          try simp only [Act.put]
          try simp only [List.setIfInBounds_toArray]
          try simp only [List.set_cons_succ, List.set_cons_zero]
          refine anyK_take (i := 4) (v := ?v710) rfl (by kernel_rfl) (by kernel_rfl) (by kernel_rfl) (by kernel_rfl) (fun _ _ _ h => h) (by rfl) hHeld ?hy710 (some 76) (by rfl) ?rest710
          case hy710 => (intro W hSw; (try dsimp only at hSw); go_simp; (try with_reducible rfl))
          try simp only [Act.put]
          try simp only [List.setIfInBounds_toArray]
          try simp only [List.set_cons_succ, List.set_cons_zero]
          refine anyK_take (i := 5) (v := ?v711) rfl (by kernel_rfl) (by kernel_rfl) (by kernel_rfl) (by kernel_rfl) (fun _ _ _ h => h) (by rfl) hHeld ?hy711 (some 77) (by rfl) ?rest711
          case hy711 => (intro W hSw; (try dsimp only at hSw); go_simp; (try with_reducible rfl))
          try simp only [Act.put]
          try simp only [List.setIfInBounds_toArray]
          try simp only [List.set_cons_succ, List.set_cons_zero]
          refine anyK_take (i := 6) (v := ?v712) rfl (by kernel_rfl) (by kernel_rfl) (by kernel_rfl) (by kernel_rfl) (fun _ _ _ h => h) (by rfl) hHeld ?hy712 (some 78) (by rfl) ?rest712
          case hy712 => (intro W hSw; (try dsimp only at hSw); go_simp; (try with_reducible rfl))
          try simp only [Act.put]
          try simp only [List.setIfInBounds_toArray]
          try simp only [List.set_cons_succ, List.set_cons_zero]
          refine anyK_take (i := 7) (v := ?v713) rfl (by kernel_rfl) (by kernel_rfl) (by kernel_rfl) (by kernel_rfl) (fun _ _ _ h => h) (by rfl) hHeld ?hy713 (some 79) (by rfl) ?rest713
          case hy713 => (intro W hSw; (try dsimp only at hSw); go_simp; (try with_reducible rfl))
          try simp only [Act.put]
          try simp only [List.setIfInBounds_toArray]
          try simp only [List.set_cons_succ, List.set_cons_zero]
          refine anyK_take (i := 8) (v := ?v714) rfl (by kernel_rfl) (by kernel_rfl) (by kernel_rfl) (by kernel_rfl) (fun _ _ _ h => h) (by rfl) hHeld ?hy714 (some 80) (by rfl) ?rest714
          case hy714 => (intro W hSw; (try dsimp only at hSw); go_simp; (try with_reducible rfl))
          try simp only [Act.put]
          try simp only [List.setIfInBounds_toArray]
          try simp only [List.set_cons_succ, List.set_cons_zero]
          refine anyK_step (i := 2) (by kernel_rfl) rfl (fun K hK => ?_)
          go_simp
          refine hK.out _ _ ?_ (fun hH2 => ?_)
          · exact HK'.out _ ((bel_al (Below.refl _ wr) _).drew)
          clear hK K hHeld
          have hHeld := hH2
          clear hH2
          try simp only [Act.put]
          try simp only [List.setIfInBounds_toArray]
          try simp only [List.set_cons_succ, List.set_cons_zero]
          refine anyK_step (i := 9) (by kernel_rfl) rfl (fun K hK => ?_)
          refine step_append_row (by rfl) _ _ _ (by rfl) wr.heap.size 5 k0' (.int .u8 0) 1 1 Try.underlying22 ki kz0 kz1 kz2 rfl (by omega) (.slice (some ⟨wr.heap.size, 0, none⟩) 0 0) 0 [] (by rfl) (by simpa using H0.out.drew) (some ⟨gb, p, none⟩) (p + k - p) (c5 - p) (bys zk) (by rfl) (by rw [bys_length, HZK.out] <;> omega) ((RZ.out.below (bel_al (Below.refl _ wr) _).drew (Nat.le_refl _)).news' (fun e => by cases e)) (fun e => by cases e) (bys_one _) (by unfold maxLen; omega) (by omega) (by simp) ?_
          intro av cv u hob hgb
          simp only [Nat.zero_add, List.nil_append, Nat.add_sub_cancel_left] at hob
          have bu := ((bel_al (Below.refl wr.heap.size wr) (.cells #[] 5)).drew).grown hgb (by simp) (fun q hq => by cases hq; exact Nat.le_refl _)
          have HO1 := hid hob
          have HBU := hid bu
          clear hob hgb bu
          simp only [Nat.zero_add, Nat.add_sub_cancel_left]
          refine hK.out _ _ ?_ (fun hH2 => ?_)
          · exact HK'.out _ HBU.out
          clear hK K hHeld
          have hHeld := hH2
          clear hH2
          try simp only [Act.put]
          try simp only [List.setIfInBounds_toArray]
          try simp only [List.set_cons_succ, List.set_cons_zero]
          refine anyK_step (i := 10) (by kernel_rfl) rfl (fun K hK => ?_)
          go_simp
          refine hK.out _ _ ?_ (fun hH2 => ?_)
          · exact HK'.out _ (bel_al HBU.out _)
          clear hK K hHeld
          have hHeld := hH2
          clear hH2
          try simp only [Act.put]
          try simp only [List.setIfInBounds_toArray]
          try simp only [List.set_cons_succ, List.set_cons_zero]
          refine anyK_step (i := 11) (by kernel_rfl) rfl (fun K hK => ?_)
          refine step_append_row (by rfl) _ _ _ (by rfl) V.heap.size 22 i0 (.slice none 0 0) 1 24 Try.underlying24 hi hz0 hz1 hz2 rfl (by omega) (.slice a' j c') j xs (by rfl) (owns_below (bel_al HBU.out _) (Nat.le_refl _) HL.out.own) (some ⟨u.heap.size, 0, none⟩) 1 1 [.slice av (k) cv] (by rfl) rfl (.inr ⟨_, rfl, World.news_of_block (heap_alloc_new u _)⟩) (fun e => by cases e) (by simp [Value.oneCell']) (by unfold maxLen; omega) (by omega) (by have := HZV.out; have := HBU.out.size; simp; omega) ?_
          intro g' cap w1 hown1 hgrow
          obtain ⟨s1, s2⟩ := HK'.out _ (bel_al HBU.out (.cells #[.slice av (k) cv] 22))
          have k0 := hgrow.cell s1 HNE.out
          have k1 := (hgrow.frozen_far ⟨(w.heap.size + 1), 1, none⟩ (Nat.lt_of_lt_of_le HLT.out (bel_al HBU.out (.cells #[.slice av (k) cv] 22)).size) HNE.out).trans s2
          clear s1 s2
          refine hK.out _ _ ?_ (fun hH2 => ?_)
          · exact ⟨k0, k1⟩
          clear hK K hHeld
          have hHeld := hH2
          clear hH2
          try simp only [Act.put]
          try simp only [List.setIfInBounds_toArray]
          try simp only [List.set_cons_succ, List.set_cons_zero]
          refine anyK_take (i := 12) (v := ?v719) rfl (by kernel_rfl) (by kernel_rfl) (by kernel_rfl) (by kernel_rfl) (fun _ _ _ h => h) (by rfl) hHeld ?hy719 (some 84) (by rfl) ?rest719
          case hy719 => (intro W hSw; (try dsimp only at hSw); go_simp; (try with_reducible rfl))
          try simp only [Act.put]
          try simp only [List.setIfInBounds_toArray]
          try simp only [List.set_cons_succ, List.set_cons_zero]
          refine anyK_last (by kernel_rfl) rfl (fun K hK => ?_)
          go_simp
          refine hK.out _ _ ?_
          clear hK K hHeld
          refine anyK_done (by kernel_rfl) ?_ _
          clear lw
          have bX := bel_al HBU.out (.cells #[.slice av (k) cv] 22)
          have L2 := HL.out.grow (v := .slice av (k) cv) (z := zk) bX (by have := HZV.out; omega) (by rw [HZK.out]; exact (own_len HO1.out (show k = k by omega)).alloc _) HZB.out hown1 hgrow
          have HL2 := hid L2
          have R2 := hid (HL.out.grow_at (a2 := g') (c2 := cap) bX hgrow R0.out HNR.out (by omega))
          have B2 := hid (((HB.out.trans (bX.mono HB.out.size)).grown hgrow (Nat.le_trans HB.out.size bX.size) (fun q hq => by have := (HL.out.own.lt q hq).1; have := LO.out; omega)).setCell (p := ⟨(w.heap.size + 1), 1, none⟩) (by simp) (.slice g' (j + 1) cap))
          have RB2 := hid (((RB.out.below bX (Nat.le_refl _)).other hgrow (fun a e => by cases e; exact HNB.out)).other (grown_set7 w1 (w.heap.size + 1) 1 (.slice g' (j + 1) cap)) (fun a e => by cases e; exact (show some gb ≠ some (w.heap.size + 1) from fun e => by have e2 := Option.some.inj e; have := HGB.out; omega)))
          have Z2 := hid (show V.heap.size ≤ (w1.setCell ⟨(w.heap.size + 1), 1, none⟩ (.slice g' (j + 1) cap)).heap.size by have := HZV.out; have := bX.size; have := hgrow.size; simp only [set_size]; omega)
          clear bX L2 hown1 hgrow k0 k1 HL R0 HB RB HZV HK' HBU HO1 H0 HNE HNR HNB
          go_wp2_with fail
          go_roundw
          case rel => exact ⟨j + 1, p + k, acc ++ [zk], g', cap, xs ++ [.slice av (k) cv], by omega, by omega, by go_num, by go_num, HC2, hid (.inl ⟨by omega, by rcases HNJ.out with h | h <;> omega⟩), HL2, R2, B2, RB2, Z2⟩
          case measure => simp [intOf]; omega

        · have hlt' : ¬ (j : Int) < (n : Int) := by omega
          obtain rfl : n = j := by omega
          have hn239 : n ≤ 239 := by rcases HNJ.out with h | h <;> omega
          have HS := hid (show slotsZ (bodyZ zs 4) = some acc by rw [HBB.out]; exact slotsZ_yes (by rw [HN0.out, HLB.out]; omega) (by rw [HN0.out]; exact HC.out))
          have HLK := hid HL.out.len
          have HBY := hid (show bdZ (bytesP L acc) from bytesP_bd HL.out.reads.bd)
          have HSE := hid (str_eq7 HBY.out HBD.out)
          obtain ⟨x0, x1⟩ := HL.out.box
          have HLT := hid HL.out.lt
          have HK' := hid (show ∀ X, Below wr.heap.size wr X → X.cell? ⟨w.heap.size + 1, 0, none⟩ = some (.int .i64 L) ∧ X.cell? ⟨w.heap.size + 1, 1, none⟩ = some (.slice a' n c') ∧ (convert 22 9 (.slice (some ⟨b, off, none⟩) 256 c)).run Try.prog X = .ok (.string (str zs)) X from fun X bb => ⟨(bb.cell (p := ⟨w.heap.size + 1, 0, none⟩) HLT.out).trans x0, (bb.cell (p := ⟨w.heap.size + 1, 1, none⟩) HLT.out).trans x1, (HRW.out.below (HB.out.trans (bb.mono HB.out.size)) (Nat.le_refl _)).str c 22 Try.underlying22 Try.underlying5 Try.underlying9⟩)
          clear x0 x1
          by_cases he : bytesP L acc ≠ zs
          · have hse : ((str (bytesP L acc)).toList == (str zs).toList) = false := by rw [HSE.out]; exact decide_eq_false he
            have HE := hid he
            clear he
            go_wp2_with fail
            refine region_K 99 (fun X => X.cell? ⟨(w.heap.size + 1), 0, none⟩ = some (.int .i64 L) ∧ X.cell? ⟨(w.heap.size + 1), 1, none⟩ = some (.slice a' n c') ∧ (convert 22 9 (.slice (some ⟨b, off, none⟩) 256 c)).run Try.prog X = .ok (.string (str zs)) X) (by kernel_rfl) ?_ (fun hHeld => ?_)
            · exact HK'.out _ ((Below.refl _ wr).drew)
            refine anyK_take2 (i := 3) (v := ?v742) rfl (by kernel_rfl) (by kernel_rfl) (by kernel_rfl) (by kernel_rfl) (fun _ _ _ h => h) (by rfl) hHeld ?hy742 (some 91) (by rfl) ?rest742
            case hy742 => (intro W hSw; (try dsimp only at hSw); go_simp; (try with_reducible rfl))
            try simp only [Act.put]
            try simp only [List.setIfInBounds_toArray]
            try simp only [List.set_cons_succ, List.set_cons_zero]
            refine anyK_take2 (i := 4) (v := ?v743) rfl (by kernel_rfl) (by kernel_rfl) (by kernel_rfl) (by kernel_rfl) (fun _ _ _ h => h) (by rfl) hHeld ?hy743 (some 92) (by rfl) ?rest743
            case hy743 => (intro W hSw; (try dsimp only at hSw); go_simp; (try with_reducible rfl))
            try simp only [Act.put]
            try simp only [List.setIfInBounds_toArray]
            try simp only [List.set_cons_succ, List.set_cons_zero]
            refine anyK_take2 (i := 0) (v := ?v744) rfl (by kernel_rfl) (by kernel_rfl) (by kernel_rfl) (by kernel_rfl) (fun _ _ _ h => h) (by rfl) hHeld ?hy744 (some 88) (by rfl) ?rest744
            case hy744 => (intro W hSw; (try dsimp only at hSw); go_simp; (try with_reducible rfl))
            try simp only [Act.put]
            try simp only [List.setIfInBounds_toArray]
            try simp only [List.set_cons_succ, List.set_cons_zero]
            refine anyK_step (i := 1) (by kernel_rfl) rfl (fun K0 hK => ?_)
            go_simp
            refine (spec_PageBytes L c' (HL.out.reads.below ((Below.refl _ wr).drew) (Nat.le_refl _)) HLK.out).mono ?_
            rintro e y1 ⟨s1, rfl, o1, b1⟩
            obtain ⟨p1, d1, rfl, rp1, -⟩ := Reads.own o1 HBY.out
            have RP1 := hid rp1
            have Y1 := hid (((Below.refl wr.heap.size wr).drew).trans (b1.mono (Nat.le_refl _)))
            clear rp1 o1 b1
            go_wp2_with fail
            refine hK.out _ _ ?_ (fun hH2 => ?_)
            · exact HK'.out _ Y1.out
            clear hK K0 hHeld
            have hHeld := hH2
            clear hH2
            try simp only [Act.put]
            try simp only [List.setIfInBounds_toArray]
            try simp only [List.set_cons_succ, List.set_cons_zero]
            refine anyK_more (fun X => (X.cell? ⟨(w.heap.size + 1), 0, none⟩ = some (.int .i64 L) ∧ X.cell? ⟨(w.heap.size + 1), 1, none⟩ = some (.slice a' n c') ∧ (convert 22 9 (.slice (some ⟨b, off, none⟩) 256 c)).run Try.prog X = .ok (.string (str zs)) X) ∧ (convert 22 9 (.slice p1 (bytesP L acc).length d1)).run Try.prog X = .ok (.string (str (bytesP L acc))) X) (fun _ h => h.1) ⟨HK'.out _ Y1.out, RP1.out.str d1 22 Try.underlying22 Try.underlying5 Try.underlying9⟩ (fun hH3 => ?_)
            clear hHeld
            have hHeld := hH3
            clear hH3
            refine anyK_take2 (i := 2) (v := ?v746) rfl (by kernel_rfl) (by kernel_rfl) (by kernel_rfl) (by kernel_rfl) (fun _ _ _ h => h) (by rfl) hHeld ?hy746 (some 90) (by rfl) ?rest746
            case hy746 => (intro W hSw; (try dsimp only at hSw); go_simp; (try with_reducible rfl))
            try simp only [Act.put]
            try simp only [List.setIfInBounds_toArray]
            try simp only [List.set_cons_succ, List.set_cons_zero]
            refine anyK_take2 (i := 5) (v := ?v747) rfl (by kernel_rfl) (by kernel_rfl) (by kernel_rfl) (by kernel_rfl) (fun _ _ _ h => h) (by rfl) hHeld ?hy747 (some 93) (by rfl) ?rest747
            case hy747 => (intro W hSw; (try dsimp only at hSw); go_simp; (try with_reducible rfl))
            try simp only [Act.put]
            try simp only [List.setIfInBounds_toArray]
            try simp only [List.set_cons_succ, List.set_cons_zero]
            refine anyK_done (by kernel_rfl) ?_ _
            clear hHeld
            have R0' := hid ((Y1.out.block _ (by have := LO.out; have := HZV.out; omega)).trans R0.out)
            have HB' := hid (HB.out.trans (Y1.out.mono HB.out.size))
            have HN := hid (show readP zs = none from read_ne HS.out HLN.out HE.out)
            have T1 := heap_setCell_same y1 w.heap.size 0 _ 26 (.int .i64 0) R0'.out
            have T2 := hid (heap_setCell_same _ w.heap.size 1 _ 26 (.slice none 0 0) T1)
            have B6 := hid ((HB'.out.setCell (p := ⟨w.heap.size, 0, none⟩) (by simp) (.int .i64 0)).setCell (p := ⟨w.heap.size, 1, none⟩) (by simp) (.slice none 0 0))
            have r0 : y1.cell? ⟨w.heap.size, 0, none⟩ = some (.int .i64 0) := cell_of_row _ _ 0 _ _ _ R0'.out
            have r1 : y1.cell? ⟨w.heap.size, 1, none⟩ = some (.slice none 0 0) := cell_of_row _ _ 1 _ _ _ R0'.out
            have rf0 : y1.frozen? ⟨w.heap.size, 0, none⟩ = false := frozen_of_row _ _ _ _ _ R0'.out
            have rf1 : y1.frozen? ⟨w.heap.size, 1, none⟩ = false := frozen_of_row _ _ _ _ _ R0'.out
            clear T1
            go_wp2_with fail
            obtain ⟨rfl, rfl⟩ : 0 = RL ∧ [] = RS := Prod.mk.inj ((show (readP zs).getD (0, []) = (0, []) by rw [HN.out]; rfl).symm.trans HR.out)
            obtain rfl : false = ok := (show (readP zs).isSome = false by rw [HN.out]; rfl).symm.trans HK.out
            obtain rfl : 0 = m := HM.out
            exact bodyPost_ret (results_cell_tmp7 Try.results38 _ _ w.heap.size 26 _ (0, 0) _ rfl T2.out Try.underlying26 rfl size_pg) rfl ⟨none, 0, rfl, OwnP.nil _ _ _, B6.out⟩

          · replace he := Decidable.not_not.1 he
            have hse : ((str (bytesP L acc)).toList == (str zs).toList) = true := by rw [HSE.out]; exact decide_eq_true he
            have HY := hid (read_iff HZL.out he)
            clear he
            go_wp2_with fail
            refine region_K 99 (fun X => X.cell? ⟨(w.heap.size + 1), 0, none⟩ = some (.int .i64 L) ∧ X.cell? ⟨(w.heap.size + 1), 1, none⟩ = some (.slice a' n c') ∧ (convert 22 9 (.slice (some ⟨b, off, none⟩) 256 c)).run Try.prog X = .ok (.string (str zs)) X) (by kernel_rfl) ?_ (fun hHeld => ?_)
            · exact HK'.out _ ((Below.refl _ wr).drew)
            refine anyK_take2 (i := 3) (v := ?v735) rfl (by kernel_rfl) (by kernel_rfl) (by kernel_rfl) (by kernel_rfl) (fun _ _ _ h => h) (by rfl) hHeld ?hy735 (some 91) (by rfl) ?rest735
            case hy735 => (intro W hSw; (try dsimp only at hSw); go_simp; (try with_reducible rfl))
            try simp only [Act.put]
            try simp only [List.setIfInBounds_toArray]
            try simp only [List.set_cons_succ, List.set_cons_zero]
            refine anyK_take2 (i := 4) (v := ?v736) rfl (by kernel_rfl) (by kernel_rfl) (by kernel_rfl) (by kernel_rfl) (fun _ _ _ h => h) (by rfl) hHeld ?hy736 (some 92) (by rfl) ?rest736
            case hy736 => (intro W hSw; (try dsimp only at hSw); go_simp; (try with_reducible rfl))
            try simp only [Act.put]
            try simp only [List.setIfInBounds_toArray]
            try simp only [List.set_cons_succ, List.set_cons_zero]
            refine anyK_take2 (i := 0) (v := ?v737) rfl (by kernel_rfl) (by kernel_rfl) (by kernel_rfl) (by kernel_rfl) (fun _ _ _ h => h) (by rfl) hHeld ?hy737 (some 88) (by rfl) ?rest737
            case hy737 => (intro W hSw; (try dsimp only at hSw); go_simp; (try with_reducible rfl))
            try simp only [Act.put]
            try simp only [List.setIfInBounds_toArray]
            try simp only [List.set_cons_succ, List.set_cons_zero]
            refine anyK_step (i := 1) (by kernel_rfl) rfl (fun K0 hK => ?_)
            go_simp
            refine (spec_PageBytes L c' (HL.out.reads.below ((Below.refl _ wr).drew) (Nat.le_refl _)) HLK.out).mono ?_
            rintro e y1 ⟨s1, rfl, o1, b1⟩
            obtain ⟨p1, d1, rfl, rp1, -⟩ := Reads.own o1 HBY.out
            have RP1 := hid rp1
            have Y1 := hid (((Below.refl wr.heap.size wr).drew).trans (b1.mono (Nat.le_refl _)))
            clear rp1 o1 b1
            go_wp2_with fail
            refine hK.out _ _ ?_ (fun hH2 => ?_)
            · exact HK'.out _ Y1.out
            clear hK K0 hHeld
            have hHeld := hH2
            clear hH2
            try simp only [Act.put]
            try simp only [List.setIfInBounds_toArray]
            try simp only [List.set_cons_succ, List.set_cons_zero]
            refine anyK_more (fun X => (X.cell? ⟨(w.heap.size + 1), 0, none⟩ = some (.int .i64 L) ∧ X.cell? ⟨(w.heap.size + 1), 1, none⟩ = some (.slice a' n c') ∧ (convert 22 9 (.slice (some ⟨b, off, none⟩) 256 c)).run Try.prog X = .ok (.string (str zs)) X) ∧ (convert 22 9 (.slice p1 (bytesP L acc).length d1)).run Try.prog X = .ok (.string (str (bytesP L acc))) X) (fun _ h => h.1) ⟨HK'.out _ Y1.out, RP1.out.str d1 22 Try.underlying22 Try.underlying5 Try.underlying9⟩ (fun hH3 => ?_)
            clear hHeld
            have hHeld := hH3
            clear hH3
            refine anyK_take2 (i := 2) (v := ?v739) rfl (by kernel_rfl) (by kernel_rfl) (by kernel_rfl) (by kernel_rfl) (fun _ _ _ h => h) (by rfl) hHeld ?hy739 (some 90) (by rfl) ?rest739
            case hy739 => (intro W hSw; (try dsimp only at hSw); go_simp; (try with_reducible rfl))
            try simp only [Act.put]
            try simp only [List.setIfInBounds_toArray]
            try simp only [List.set_cons_succ, List.set_cons_zero]
            refine anyK_take2 (i := 5) (v := ?v740) rfl (by kernel_rfl) (by kernel_rfl) (by kernel_rfl) (by kernel_rfl) (fun _ _ _ h => h) (by rfl) hHeld ?hy740 (some 93) (by rfl) ?rest740
            case hy740 => (intro W hSw; (try dsimp only at hSw); go_simp; (try with_reducible rfl))
            try simp only [Act.put]
            try simp only [List.setIfInBounds_toArray]
            try simp only [List.set_cons_succ, List.set_cons_zero]
            refine anyK_done (by kernel_rfl) ?_ _
            clear hHeld
            have R0' := hid ((Y1.out.block _ (by have := LO.out; have := HZV.out; omega)).trans R0.out)
            have HB' := hid (HB.out.trans (Y1.out.mono HB.out.size))
            obtain ⟨x0, x1, _⟩ := HK'.out _ Y1.out
            obtain ⟨rfl, rfl⟩ : L = RL ∧ acc = RS := Prod.mk.inj ((show (readP zs).getD (0, []) = (L, acc) by rw [HY.out]; rfl).symm.trans HR.out)
            obtain rfl : true = ok := (show (readP zs).isSome = true by rw [HY.out]; rfl).symm.trans HK.out
            obtain rfl : n = m := HLK.out.symm.trans HM.out
            have HL9 := hid (HL.out.below Y1.out (Nat.le_refl _))
            have O6 := hid ((HL9.out.beside R0'.out (by decide) (by decide) (grown_set7 y1 w.heap.size 0 (.int .i64 L)) (by omega)).beside (heap_setCell_same y1 w.heap.size 0 _ 26 (.int .i64 L) R0'.out) (by decide) (by decide) (grown_set7 _ w.heap.size 1 (.slice a' n c')) (by omega))
            have T1 := heap_setCell_same y1 w.heap.size 0 _ 26 (.int .i64 L) R0'.out
            have T2 := hid (heap_setCell_same _ w.heap.size 1 _ 26 (.slice a' n c') T1)
            have B6 := hid ((HB'.out.setCell (p := ⟨w.heap.size, 0, none⟩) (by simp) (.int .i64 L)).setCell (p := ⟨w.heap.size, 1, none⟩) (by simp) (.slice a' n c'))
            have r0 : y1.cell? ⟨w.heap.size, 0, none⟩ = some (.int .i64 0) := cell_of_row _ _ 0 _ _ _ R0'.out
            have r1 : y1.cell? ⟨w.heap.size, 1, none⟩ = some (.slice none 0 0) := cell_of_row _ _ 1 _ _ _ R0'.out
            have rf0 : y1.frozen? ⟨w.heap.size, 0, none⟩ = false := frozen_of_row _ _ _ _ _ R0'.out
            have rf1 : y1.frozen? ⟨w.heap.size, 1, none⟩ = false := frozen_of_row _ _ _ _ _ R0'.out
            clear T1
            go_wp2_with fail
            exact bodyPost_ret (results_cell_tmp7 Try.results38 _ _ w.heap.size 26 _ (0, 0) _ rfl T2.out Try.underlying26 rfl size_pg) rfl ⟨_, _, rfl, O6.out.ownP.mono (by have := LO.out; omega) (Nat.le_refl _), B6.out⟩
end Go.Proofs.Ytdfieopdbpklnaa
