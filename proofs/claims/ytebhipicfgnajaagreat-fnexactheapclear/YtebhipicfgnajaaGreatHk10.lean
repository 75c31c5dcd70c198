/- The contract of the specification's HeapRows. Conditions: what the types say. -/
import Derived.Test.YtebhipicfgnajaaGreatHj10
namespace Go.Proofs.YtebhipicfgnajaaGreat
open Go.RowKit
set_option maxRecDepth 100000

theorem Tryz.infoRw : (Tryz.prog.info? 42).map (fun i => (i.zero, i.size, i.bytes)) = some (some (.agg #[.int .i64 0, .int .i64 0, .int .i64 0, .int .i64 0, .int .i64 0, .int .i64 0, .float .f64 0, .slice none 0 0, .int .i64 0, .int .i64 0, .float .f64 0, .slice none 0 0]), 12, 128) := by kernel_rfl

set_option maxHeartbeats 6400000 in
theorem spec_HeapRows {ad : Option Addr} {n : Nat} (cap : Nat) {ps : List Pg} {w : World} (h : ReadsG w ad ps) (hl : ps.length = n) :
    Calls Tryz.prog 13 #[.agg #[.slice ad n cap]] w fun e w' => ∃ v, e = .returned v ∧ OwnRw w' w.heap.size w'.heap.size v (rowsH ps) ∧ (rowsH ps).length ≤ 256 ∧ Below w.heap.size w w' := by
  obtain ⟨i0, hi, hz0, hz1, hz2⟩ := info_parts Tryz.infoRw
  have HB := hid (Below.alloc1 w (.cells #[.slice ad n cap] 26))
  have HR := hid (h.below HB.out (Nat.le_refl _))
  have C0 := hid (box1 w (.slice ad n cap) 26)
  have hbx := alloc_size w (.cells #[.slice ad n cap] 26)
  have HBX := hid (show w.heap.size < (w.alloc (.cells #[.slice ad n cap] 26)).heap.size by omega)
  clear h hbx
  go_enter Tryz.func13, Tryz.ntmps13
  go_wp2_with fail
  refine (spec_HeapOk cap HR.out hl).mono ?_
  rintro e W ⟨rfl, b⟩
  have C1 := hid ((b.cell (p := ⟨w.heap.size, 0, none⟩) HBX.out).trans C0.out)
  replace HR := hid (HR.out.below b (Nat.le_refl _))
  replace HB := hid (HB.out.trans (b.mono HB.out.size))
  have HBX2 := hid (Nat.lt_of_lt_of_le HBX.out b.size)
  clear b C0 HBX
  cases hok : okH ps with
  | false =>
    go_wp2_with fail
    go_ret
    have e0 : rowsH ps = [] := by unfold rowsH; rw [hok]; rfl
    rw [e0]
    exact ⟨_, rfl, OwnRw.nil _ _ _, by simp, HB.out⟩
  | true =>
    have HO := hid hok
    have hn16 : n ≤ 16 := by have := (okH_of hok).1; omega
    clear hok
    go_wp2_with fail
    go_loopw [3, 4, 5, 6, 7] (fun sl i _ _ _ wr => ∃ (j m c1 : Nat) (a1 : Option Addr) (rs : List Rw), j ≤ n ∧ i = .int .i64 j ∧ sl = .slice a1 m c1 ∧ m ≤ j * 16 ∧ Hid (rs = rowsG 0 (ps.take j)) ∧ Hid (rs.length = m) ∧ Hid (OwnRw wr W.heap.size wr.heap.size (.slice a1 m c1) rs) ∧ Hid (Below W.heap.size W wr)) (fun _ i _ _ _ _ => n - (intOf i).toNat)
    case atStart => exact ⟨0, 0, 0, none, [], Nat.zero_le _, rfl, rfl, by omega, hid rfl, hid rfl, hid (OwnRw.nil _ _ _), hid (Below.refl _ _)⟩
    case round =>
      obtain ⟨j, m, c1, a1, rs, hj, rfl, rfl, hm16, HRS, HLN, HOW, HS⟩ := hrel
      have hb0 := (HS.out.cell (p := ⟨w.heap.size, 0, none⟩) HBX2.out).trans C1.out
      by_cases hlt : j < n
      · have hlt' : (j : Int) < (n : Int) := by omega
        have hj0 : (0 : Int) ≤ (j : Int) := by omega
        obtain ⟨b, off, a, c, rfl, hca0, hcx0, hr0, hmx⟩ := HR.out.at (k := j) (by omega)
        have hpg := okPg_of ((okH_of HO.out).2 j (by omega))
        have h16 := (okP_of hpg.1).n
        have HZ := hid (okP_of hpg.1).z
        have HStep := hid (rowsG_step ps j (by omega))
        have bl := hid (World.block_lt_of_cell? W _ hcx0)
        have HCX := hid hcx0
        have hr := hid hr0
        generalize ps.getD j pg0 = p at HCX hr h16 HZ HStep
        obtain ⟨A, ss⟩ := p
        obtain ⟨l, hlz⟩ : ∃ l, ss.length = l := ⟨_, rfl⟩
        simp only at HCX hr h16 HZ HStep
        rw [hlz] at HCX h16
        have HL := hid hlz
        clear hca0 hcx0 hr0 hmx hpg hlz
        go_wp2_with fail
        clear hb0
        go_loopw [3, 5, 6, 7] (fun sl i _ _ wi => ∃ (q k c2 : Nat) (a2 : Option Addr) (qs : List Rw), q ≤ l ∧ i = .int .i64 q ∧ sl = .slice a2 k c2 ∧ k ≤ m + q ∧ Hid (qs = rs ++ rowsP j 0 (ss.take q)) ∧ Hid (qs.length = k) ∧ Hid (OwnRw wi W.heap.size wi.heap.size (.slice a2 k c2) qs) ∧ Hid (Below W.heap.size W wi)) (fun _ i _ _ _ => l - (intOf i).toNat)
        case atStart => exact ⟨0, m, c1, a1, rs, Nat.zero_le _, rfl, rfl, by omega, hid (by simp [rowsP]), HLN, HOW, HS⟩
        case round =>
          clear HOW HS HLN
          obtain ⟨q, k, c2, a2, qs, hq, rfl, rfl, hk, HQS, HKN, HOW, HS⟩ := hrel
          have hb0 := (HS.out.cell (p := ⟨w.heap.size, 0, none⟩) HBX2.out).trans C1.out
          have hcx := (HS.out.cell (p := ⟨b, off + j * 2 + 1, none⟩) bl.out).trans HCX.out
          by_cases hlq : q < l
          · have hlq' : (q : Int) < (l : Int) := by omega
            have hq0 : (0 : Int) ≤ (q : Int) := by omega
            obtain ⟨b3, off3, a3, c3, rfl, hs0, hrs0, hnil, hroom⟩ := hr.out.at (k := q) (by rw [HL.out]; exact hlq)
            have bl3 := World.block_lt_of_cell? W _ hs0
            have hs1 := (HS.out.cell (p := ⟨b3, off3 + q, none⟩) bl3).trans hs0
            have hrs := hid (hrs0.below HS.out (Nat.le_refl _))
            have hz92 := HZ.out q
            have hTbd := readT_bd (zs := ss.getD q []) hrs0.bd (by omega)
            have HPS := hid (rowsP_step j ss q (by rw [HL.out]; exact hlq))
            generalize ss.getD q [] = zz at hs1 hrs hz92 hroom hTbd HPS
            obtain ⟨lz, hlz⟩ : ∃ lz, zz.length = lz := ⟨_, rfl⟩
            rw [hlz] at hs1 hz92 hroom hrs
            have BD1 := hid hTbd.1
            have BD2 := hid hTbd.2.2.1
            clear hs0 hrs0 hTbd hlz bl3
            go_wp2_with fail
            refine (spec_TupleRead_any c3 hroom hrs.out (by omega)).mono ?_
            rintro e w5 ⟨f1, v1, f2, v2, rfl, hf1, hf2, sf1, sf2, o1, o2, hap, b5⟩
            obtain ⟨a5, c5, rfl⟩ := own_sl o1
            obtain ⟨a6, c6, rfl⟩ := own_sl o2
            have hst1 := fun w a m => run_store Tryz.prog w a (.float .f64 f1) m rfl
            have hst2 := fun w a m => run_store Tryz.prog w a (.float .f64 f2) m rfl
            have HSM := hid (show SameR ⟨(j : Int), (q : Int), readT zz⟩ (f1, f2) from ⟨sf1.out, sf2.out, hf1, hf2⟩)
            have O1 := hid o1
            have O2 := hid o2
            have HAP := hid hap
            have B5 := hid b5
            clear hcx hb0 hs1 o1 o2 b5 hap
            have hX1 := Below.alloc1 w5 (.cells #[.int .i64 (readT zz).A, .int .i64 (readT zz).B, .int .i64 (readT zz).K, .int .i64 (readT zz).N, .float .f64 f1, .slice a5 (readT zz).Z.length c5, .int .i64 (readT zz).L, .int .i64 (readT zz).M, .float .f64 f2, .slice a6 (readT zz).Y.length c6] 40)
            have B6 := hid (B5.out.trans (hX1.mono B5.out.size))
            have HW6 := hid (HOW.out.below B6.out (Nat.le_refl _))
            have HS6 := hid (HS.out.trans (B6.out.mono HS.out.size))
            have RT := hid (heap_alloc_new w5 (.cells #[.int .i64 (readT zz).A, .int .i64 (readT zz).B, .int .i64 (readT zz).K, .int .i64 (readT zz).N, .float .f64 f1, .slice a5 (readT zz).Z.length c5, .int .i64 (readT zz).L, .int .i64 (readT zz).M, .float .f64 f2, .slice a6 (readT zz).Y.length c6] 40))
            have P1 := hid (O1.out.alloc (.cells #[.int .i64 (readT zz).A, .int .i64 (readT zz).B, .int .i64 (readT zz).K, .int .i64 (readT zz).N, .float .f64 f1, .slice a5 (readT zz).Z.length c5, .int .i64 (readT zz).L, .int .i64 (readT zz).M, .float .f64 f2, .slice a6 (readT zz).Y.length c6] 40))
            have P2 := hid (O2.out.alloc (.cells #[.int .i64 (readT zz).A, .int .i64 (readT zz).B, .int .i64 (readT zz).K, .int .i64 (readT zz).N, .float .f64 f1, .slice a5 (readT zz).Z.length c5, .int .i64 (readT zz).L, .int .i64 (readT zz).M, .float .f64 f2, .slice a6 (readT zz).Y.length c6] 40))
            have Z6 := hid (show wr.heap.size ≤ (w5.alloc (.cells #[.int .i64 (readT zz).A, .int .i64 (readT zz).B, .int .i64 (readT zz).K, .int .i64 (readT zz).N, .float .f64 f1, .slice a5 (readT zz).Z.length c5, .int .i64 (readT zz).L, .int .i64 (readT zz).M, .float .f64 f2, .slice a6 (readT zz).Y.length c6] 40)).heap.size from B6.out.size)
            have ZT := hid HS.out.size
            clear hX1 O1 O2 B5 B6 HOW HS
            cases hokt : (readT zz).ok with
            | false =>
              have HQ2 := hid (show qs = rs ++ rowsP j 0 (ss.take (q + 1)) by rw [HPS.out, hokt, HQS.out]; simp)
              go_wp2_with fail
              have HOn := hid (HW6.out.mono (Nat.le_refl _) Z6.out)
              go_roundw
              case rel => exact ⟨q + 1, k, c2, a2, qs, by omega, by go_num, rfl, by omega, HQ2, HKN, HOn, HS6⟩
              case measure => simp [intOf]; omega
            | true =>
              have HQ2 := hid (show qs ++ [⟨(j : Int), (q : Int), readT zz⟩] = rs ++ rowsP j 0 (ss.take (q + 1)) by rw [HPS.out, hokt, HQS.out]; simp)
              obtain ⟨T, hT⟩ : ∃ T, w5.alloc (.cells #[.int .i64 (readT zz).A, .int .i64 (readT zz).B, .int .i64 (readT zz).K, .int .i64 (readT zz).N, .float .f64 f1, .slice a5 (readT zz).Z.length c5, .int .i64 (readT zz).L, .int .i64 (readT zz).M, .float .f64 f2, .slice a6 (readT zz).Y.length c6] 40) = T := ⟨_, rfl⟩
              have hX2 := Below.alloc1 T (.cells #[.int .i64 (j : Int), .int .i64 (q : Int), .int .i64 (readT zz).A, .int .i64 (readT zz).B, .int .i64 (readT zz).K, .int .i64 (readT zz).N, .float .f64 f1, .slice a5 (readT zz).Z.length c5, .int .i64 (readT zz).L, .int .i64 (readT zz).M, .float .f64 f2, .slice a6 (readT zz).Y.length c6] 42)
              rw [hT] at HW6 P1 P2 Z6 HS6
              have HW7 := hid (HW6.out.below hX2 Z6.out)
              have HS7 := hid (HS6.out.trans (hX2.mono HS6.out.size))
              have P3 := hid (P1.out.alloc (.cells #[.int .i64 (j : Int), .int .i64 (q : Int), .int .i64 (readT zz).A, .int .i64 (readT zz).B, .int .i64 (readT zz).K, .int .i64 (readT zz).N, .float .f64 f1, .slice a5 (readT zz).Z.length c5, .int .i64 (readT zz).L, .int .i64 (readT zz).M, .float .f64 f2, .slice a6 (readT zz).Y.length c6] 42))
              have P4 := hid (P2.out.alloc (.cells #[.int .i64 (j : Int), .int .i64 (q : Int), .int .i64 (readT zz).A, .int .i64 (readT zz).B, .int .i64 (readT zz).K, .int .i64 (readT zz).N, .float .f64 f1, .slice a5 (readT zz).Z.length c5, .int .i64 (readT zz).L, .int .i64 (readT zz).M, .float .f64 f2, .slice a6 (readT zz).Y.length c6] 42))
              obtain ⟨fs, xs, o7, hf7, hB7, hq7⟩ := HW7.out.own
              rw [HKN.out] at o7
              have O7 := hid o7
              have F7 := hid hf7
              have BB7 := hid hB7
              have Q7 := hid hq7
              have ZS := hid hX2.size
              subst hT
              clear o7 hf7 hB7 hq7 hX2 HW6 HW7 P1 P2
              go_wp2_with (at_builtin; refine wpList_append_row rfl _ _ 35 rfl W.heap.size 42 i0 _ 12 128 Tryz.underlying35 hi hz0 hz1 hz2 rfl (by decide) _ _ _ rfl O7.out (some ⟨w5.heap.size + 1, 0, none⟩) 1 1 [.int .i64 (j : Int), .int .i64 (q : Int), .int .i64 (readT zz).A, .int .i64 (readT zz).B, .int .i64 (readT zz).K, .int .i64 (readT zz).N, .float .f64 f1, .slice a5 (readT zz).Z.length c5, .int .i64 (readT zz).L, .int .i64 (readT zz).M, .float .f64 f2, .slice a6 (readT zz).Y.length c6] rfl rfl (.inr ⟨_, rfl, ?g1⟩) (fun e => by cases e) ?g2 (by unfold maxLen; omega) (by omega) ?g3 ?_)
              case g1 =>
                have hnb := World.news_of_block (heap_alloc_new (w5.alloc (.cells #[.int .i64 (readT zz).A, .int .i64 (readT zz).B, .int .i64 (readT zz).K, .int .i64 (readT zz).N, .float .f64 f1, .slice a5 (readT zz).Z.length c5, .int .i64 (readT zz).L, .int .i64 (readT zz).M, .float .f64 f2, .slice a6 (readT zz).Y.length c6] 40)) (.cells #[.int .i64 (j : Int), .int .i64 (q : Int), .int .i64 (readT zz).A, .int .i64 (readT zz).B, .int .i64 (readT zz).K, .int .i64 (readT zz).N, .float .f64 f1, .slice a5 (readT zz).Z.length c5, .int .i64 (readT zz).L, .int .i64 (readT zz).M, .float .f64 f2, .slice a6 (readT zz).Y.length c6] 42))
                rw [alloc_size w5] at hnb
                exact hnb
              case g2 => intro u hu; simp only [List.mem_cons, List.not_mem_nil, or_false] at hu; rcases hu with rfl | rfl | rfl | rfl | rfl | rfl | rfl | rfl | rfl | rfl | rfl | rfl <;> rfl
              case g3 => exact HS7.out.size
              intro a8 c8 w8 o8 g8
              have HN := hid (OwnRw.push (mid := wr.heap.size) (r := ⟨(j : Int), (q : Int), readT zz⟩) (f := (f1, f2)) O7.out HKN.out F7.out BB7.out Q7.out ZT.out (Nat.le_trans Z6.out ZS.out) P3.out P4.out BD1.out BD2.out HAP.out HSM.out o8 g8)
              have HS8 := hid (HS7.out.grown g8 HS7.out.size (fun r hr => (O7.out.lt r hr).1))
              clear o8 g8 O7
              go_wp2_with fail
              go_roundw
              case rel => exact ⟨q + 1, k + 1, c8, a8, qs ++ [⟨(j : Int), (q : Int), readT zz⟩], by omega, by go_num, rfl, by omega, HQ2, hid (by simp [HKN.out]), HN, HS8⟩
              case measure => simp [intOf]; omega
          · have hlq' : ¬ (q : Int) < (l : Int) := by omega
            have hql : q = l := by omega
            have HG := hid (show qs = rowsG 0 (ps.take (j + 1)) by rw [HQS.out, HStep.out, HRS.out, show ss.take q = ss from List.take_of_length_le (by rw [HL.out]; omega)])
            go_wp2_with fail
            go_roundw
            case rel => exact ⟨j + 1, k, c2, a2, qs, by omega, by go_num, rfl, by omega, HG, HKN, HOW, HS⟩
            case measure => simp [intOf]; omega
      · have hlt' : ¬ (j : Int) < (n : Int) := by omega
        go_wp2_with fail
        go_ret
        have e0 : rowsH ps = rs := by unfold rowsH; rw [if_pos HO.out, HRS.out, List.take_of_length_le (by omega)]
        rw [e0]
        exact ⟨_, rfl, HOW.out.mono (by have := HBX2.out; have := HB.out.size; omega) (Nat.le_refl _), by rw [HLN.out]; omega, HB.out.trans (HS.out.mono HB.out.size)⟩
end Go.Proofs.YtebhipicfgnajaaGreat
