/- The contract of the specification's EdgeWrite. Conditions: at most 2^20 tracks, reads and writes, texts of at most 2^21 bytes. -/
import Derived.Test.YtnhlfkffllbpiaaGreatMgb
import Derived.Test.YtnhlfkffllbpiaaGreatEn13
import Derived.Test.YtnhlfkffllbpiaaGreatEo13
import Derived.Test.YtnhlfkffllbpiaaGreatEm13
namespace Go.Proofs.YtnhlfkffllbpiaaGreat
open Go.RowKit
set_option maxRecDepth 100000
theorem wrT_has' {t : Tk} {x : Im} (h : hasM t.ws x = true) : writeT t x = t := by
 unfold writeT
 rw [if_pos h]
theorem wrT_new' {t : Tk} {x : Im} (h : hasM t.ws x = false) : writeT t x = ⟨t.xid, t.begun, t.ended, t.all, t.rs, t.ws ++ [x], t.inn, t.out⟩ := by
 unfold writeT
 rw [if_neg (by rw [h]; simp)]
set_option maxHeartbeats 25600000 in
theorem spec_EdgeWrite {a : Option Addr} {n : Nat} (cap : Nat) {ts : List Tk} (KX NX : Int) (FX : Nat) {ax : Option Addr} {m : Nat} (cx : Nat) {ZX : List Int} {w : World} (h : ReadsT w a ts) (hl : ts.length = n) (hn : n ≤ 1048576) (hs : smT ts) (hln : lnT ts) (x : Int) (qx : Reads w ax m ZX) (hfx : FX < 18446744073709551616) (hzx : m ≤ 2097152) (hnl : ax = none → cx = 0) :
 Calls Tryz.prog 6 #[.slice a n cap, .int .i64 x, .agg #[.int .i64 KX, .int .i64 NX, .float .f64 FX, .slice ax m cx]] w fun e w' => AnsE w' (writeS ts x ⟨KX, NX, FX, ZX⟩) (writeC ts x ⟨KX, NX, FX, ZX⟩) e ∧ Below w.heap.size w w' := by
 have hst := fun w a m => run_store Tryz.prog w a (.float .f64 FX) m rfl
 have bA := Below.alloc1 w (.cells #[.int .i64 KX, .int .i64 NX, .float .f64 FX, .slice ax m cx] 33)
 have HX := hid (BoxJ.row (heap_alloc_new w (.cells #[.int .i64 KX, .int .i64 NX, .float .f64 FX, .slice ax m cx] 33)))
 have HZ := hid (alloc_size w (.cells #[.int .i64 KX, .int .i64 NX, .float .f64 FX, .slice ax m cx] 33))
 have HRT := hid h
 have HQ := hid qx
 have HOm := hid (show okK KX NX FX m = okM ⟨KX, NX, FX, ZX⟩ by unfold okM; simp only [qx.len])
 have HB := hid bA
 have HL := hid hl
 have HSM := hid hs
 have HLN := hid hln
 clear h hl hs hln qx bA
 cases hat : atT ts x with
 | none =>
  have hI : atI ts x = -1 := by unfold atI; rw [hat]
  have HE := hid (write_no (ts := ts) (x := x) (s := ⟨KX, NX, FX, ZX⟩) (.inr (.inr hat)))
  clear hat
  go_enter Tryz.func6, Tryz.ntmps6
  go_wp2_with fail
  refine (spec_l13at cap (HRT.out.below HB.out (Nat.le_refl _)) HL.out (by omega) x).mono ?_
  rintro e w1 ⟨rfl, e1⟩
  subst e1
  rw [hI]
  go_wp2_with fail
  refine (spec_TracksOk cap (HRT.out.below HB.out (Nat.le_refl _)) HL.out HSM.out).mono ?_
  rintro e w1 ⟨rfl, b1⟩
  replace HB := hid (HB.out.trans (b1.mono HB.out.size))
  clear b1 hI
  cases hv : tracksB ts with
  | false =>
   clear hv
   go_wp2_with fail
   go_ret2
   refine ⟨?_, HB.out⟩
   rw [HE.out.1, HE.out.2]
   exact ⟨none, 0, rfl, ReadsT.nil _ _⟩
  | true =>
   clear hv
   go_wp2_with fail
   go_ret2
   refine ⟨?_, HB.out⟩
   rw [HE.out.1, HE.out.2]
   exact ⟨none, 0, rfl, ReadsT.nil _ _⟩
 | some k =>
  have hI : atI ts x = (k : Int) := by unfold atI; rw [hat]
  have hk0 : (0 : Int) ≤ (k : Int) := by omega
  have hk0' : ¬ (k : Int) < 0 := by omega
  obtain ⟨hkn, _, _⟩ := atT_some hat
  have hki : (k : Int) < (n : Int) := by have := HL.out; omega
  have HKN := hid hkn
  have HAT := hid hat
  clear hat hkn
  go_enter Tryz.func6, Tryz.ntmps6
  go_wp2_with fail
  refine (spec_l13at cap (HRT.out.below HB.out (Nat.le_refl _)) HL.out (by omega) x).mono ?_
  rintro e w1 ⟨rfl, e1⟩
  subst e1
  rw [hI]
  go_wp2_with fail
  refine (spec_TracksOk cap (HRT.out.below HB.out (Nat.le_refl _)) HL.out HSM.out).mono ?_
  rintro e w1 ⟨rfl, b1⟩
  have HZ1 := hid (And.intro HZ.out b1.size)
  replace HX := hid (HX.out.below b1 (Nat.le_refl _))
  replace HB := hid (HB.out.trans (b1.mono HB.out.size))
  clear b1 hI HZ
  cases hv : tracksB ts with
  | false =>
   have HE := hid (write_no (ts := ts) (x := x) (s := ⟨KX, NX, FX, ZX⟩) (.inr (.inl hv)))
   clear hv
   go_wp2_with fail
   go_ret2
   refine ⟨?_, HB.out⟩
   rw [HE.out.1, HE.out.2]
   exact ⟨none, 0, rfl, ReadsT.nil _ _⟩
  | true =>
   have HV := hid hv
   clear hv
   obtain ⟨v0, v1, v2, v3⟩ := HX.out
   go_wp2_with fail
   clear v0 v1 v2 v3
   refine (spec_KeyOk KX NX FX ax m cx hfx hzx _).mono ?_
   rintro e w2 ⟨rfl, b2⟩
   rw [HOm.out]
   have HZ2 := hid (show w.heap.size + 1 ≤ w2.heap.size by have := HZ1.out; have := b2.size; omega)
   replace HX := hid (HX.out.below b2 (Nat.le_refl _))
   replace HB := hid (HB.out.trans (b2.mono HB.out.size))
   clear b2 HZ1
   cases hsp : okM ⟨KX, NX, FX, ZX⟩ with
   | false =>
    have HE := hid (write_no (ts := ts) (x := x) (s := ⟨KX, NX, FX, ZX⟩) (.inl hsp))
    clear hsp
    go_wp2_with fail
    go_ret2
    refine ⟨?_, HB.out⟩
    rw [HE.out.1, HE.out.2]
    exact ⟨none, 0, rfl, ReadsT.nil _ _⟩
   | true =>
    have hE := write_yes hsp HV.out HAT.out
    obtain ⟨M, hM⟩ : ∃ M, (met (hitR ⟨KX, NX, FX, ZX⟩) (ts.getD k tk0) k ts) = M := ⟨_, rfl⟩
    have HM := hid (fun i => congrFun hM i)
    rw [hM] at hE
    have HE := hid hE
    clear hM
    have HOK := hid (fun i hi => ((okTs_of HV.out).2 i hi).1)
    have HTr := hid (track_small ((okTs_of HV.out).2 k HKN.out).1)
    have HWs := hid (HSM.out k).2
    clear hsp hE
    go_wp2_with fail
    refine (spec_l13copy cap (HRT.out.below HB.out (Nat.le_refl _)) HL.out hn HSM.out HLN.out).mono ?_
    rintro e w3 ⟨v, rfl, o3, b3⟩
    obtain ⟨av, c3, rfl⟩ := o3.slice
    rw [HL.out] at o3 ⊢
    obtain ⟨ps, hps, oR, hBP⟩ := o3.pairs
    rw [HL.out] at oR
    obtain ⟨g, rfl⟩ : ∃ g, av = some ⟨g, 0, none⟩ := by
     rcases oR.2 with ⟨e, h0⟩ | ⟨g, cap, cur, e, _⟩
     · omega
     · cases e; exact ⟨g, rfl⟩
    have hlen : ps.length = n := by rw [← HL.out, ← hps, List.length_map]
    have HPS := hid (And.intro hps hlen)
    have HGL := hid (oR.lt g rfl)
    have hgr := oR.lt g rfl
    have HSLs := hid (show ∀ i, i < n → ∃ a1 c1 a2 c2, (ps.getD i pm0).2.y = .slice a1 (ts.getD i tk0).rs.length c1 ∧ (ps.getD i pm0).2.z = .slice a2 (ts.getD i tk0).ws.length c2 ∧ (ps.getD i pm0).1 = ts.getD i tk0 from fun i hi => by
     have hip : i < ps.length := by omega
     have e : ps.getD i pm0 = ps[i] := by simp [List.getD, hip]
     have ho := (hBP.own _ (List.getElem_mem hip)).part.ex
     have e1 : (ps.getD i pm0).1 = ts.getD i tk0 := by rw [← hps, map_getD]
     obtain ⟨a1, c1, a2, c2, ey, ez, _⟩ := ho
     rw [← e] at ey ez
     rw [e1] at ey ez
     exact ⟨a1, c1, a2, c2, ey, ez, e1⟩)
    have HX3 := hid (HX.out.below b3 (Nat.le_refl _))
    have HB3 := hid (HB.out.trans (b3.mono HB.out.size))
    have hS1 := HZ2.out
    have hS2 := b3.size
    obtain ⟨u1, e1, u2, e2, ey, ez, hp1⟩ := HSLs.out k (by have := HKN.out; have := HL.out; omega)
    have hbk := row_box oR hlen (i := k) (by have := HKN.out; have := HL.out; omega)
    rw [ey, ez, hp1] at hbk
    have hkp : k < ps.length := by have := HKN.out; have := HL.out; omega
    have epk : ps.getD k pm0 = ps[k] := by simp [List.getD, hkp]
    have hown := hBP.own _ (List.getElem_mem hkp)
    rw [← epk] at hown
    rw [hp1] at hown
    obtain ⟨tk, htk⟩ : ∃ tk, ts.getD k tk0 = tk := ⟨_, rfl⟩
    have HTK := hid htk
    rw [htk] at hbk ey ez hown HTr hp1 HWs
    obtain ⟨xk, bk, ek, ak, rk, wk, ik, ok⟩ := tk
    obtain ⟨y0, y1, y2, y3, y4, y5, y6, y7⟩ := hbk
    simp only at y0 y1 y2 y3 y4 y5 y6 y7 ey ez HTr HWs
    obtain ⟨l1, hl1⟩ : ∃ l1, rk.length = l1 := ⟨_, rfl⟩
    obtain ⟨l2, hl2⟩ : ∃ l2, wk.length = l2 := ⟨_, rfl⟩
    rw [hl1] at y4 ey HTr
    rw [hl2] at y5 ez HTr
    have HL12 := hid (And.intro hl1 hl2)
    obtain ⟨mk, hmk⟩ : ∃ mk, (ps.getD k pm0).2 = mk := ⟨_, rfl⟩
    have HMK := hid hmk
    rw [hmk] at ey ez hown
    obtain ⟨my, mX, mz, mY⟩ := mk
    simp only at ey ez
    subst ey ez
    have HOwn := hid hown
    have HoR := hid oR
    have HoB := hid hBP
    have bB := Below.alloc1 w3 (.cells #[.int .i64 xk, .int .i64 bk, .int .i64 ek, .bool ak, .slice u1 l1 e1, .slice u2 l2 e2, .bool ik, .bool ok] 52)
    have HR4 := hid (owns_below bB (Nat.le_refl _) oR)
    have HBP4 := hid (hBP.keep (Keeps.of_below (X := fun _ => False) bB) (fun _ _ _ _ x => x.elim))
    have HT4 := hid (heap_alloc_new w3 (.cells #[.int .i64 xk, .int .i64 bk, .int .i64 ek, .bool ak, .slice u1 l1 e1, .slice u2 l2 e2, .bool ik, .bool ok] 52))
    have HX4 := hid (HX3.out.below bB (Nat.le_refl _))
    have HB4 := hid (HB3.out.trans (bB.mono HB3.out.size))
    have HZ4 := hid (alloc_size w3 (.cells #[.int .i64 xk, .int .i64 bk, .int .i64 ek, .bool ak, .slice u1 l1 e1, .slice u2 l2 e2, .bool ik, .bool ok] 52))
    have HRk := hid (show ReadsM (w3.alloc (.cells #[.int .i64 xk, .int .i64 bk, .int .i64 ek, .bool ak, .slice u1 l1 e1, .slice u2 l2 e2, .bool ik, .bool ok] 52)) u2 wk from hown.wr.rd.below bB (Nat.le_refl _))
    have HPk := hid (show ps[k] = (⟨xk, bk, ek, ak, rk, wk, ik, ok⟩, ⟨.slice u1 l1 e1, mX, .slice u2 l2 e2, mY⟩) by rw [← epk]; exact Prod.ext hp1 hmk)
    clear o3 b3 oR hBP hown hps hlen HX HB HX3 HB3 hl1 hl2 hp1 hmk bB htk HZ2
    have hgr1 := hgr.1
    have hgr2 := hgr.2
    clear hgr
    obtain ⟨v0, v1, v2, v3⟩ := HX4.out
    have k5 : (w3.alloc (.cells #[.int .i64 xk, .int .i64 bk, .int .i64 ek, .bool ak, .slice u1 l1 e1, .slice u2 l2 e2, .bool ik, .bool ok] 52)).cell? ⟨w3.heap.size, 5, none⟩ = some (.slice u2 l2 e2) := by rw [cell_of_row _ _ _ _ _ _ HT4.out]; rfl
    go_wp2_with fail
    clear y0 y1 y2 y3 y4 y5 y6 y7 v0 v1 v2 v3 k5
    refine (spec_l13has e2 cx HRk.out HL12.out.2 (by have := HTr.out.2.1; omega) HQ.out.len (HQ.out.below HB4.out (Nat.le_refl _)) hfx hzx HWs.out).mono ?_
    rintro e W ⟨rfl, bW⟩
    replace HR4 := hid (owns_below bW (Nat.le_refl _) HR4.out)
    replace HBP4 := hid (HBP4.out.keep (Keeps.of_below (X := fun _ => False) bW) (fun _ _ _ _ x => x.elim))
    replace HT4 := hid ((bW.block w3.heap.size (by have := HZ4.out; omega)).trans HT4.out)
    replace HX4 := hid (HX4.out.below bW (Nat.le_refl _))
    replace HB4 := hid (HB4.out.trans (bW.mono HB4.out.size))
    replace HZ4 := hid (show w3.heap.size + 1 ≤ W.heap.size by have := HZ4.out; have := bW.size; omega)
    clear bW HRk
    cases hh : hasM wk ⟨KX, NX, FX, ZX⟩ with
    | true =>
     have HRT2 := hid (wrT_has' (t := ⟨xk, bk, ek, ak, rk, wk, ik, ok⟩) (x := ⟨KX, NX, FX, ZX⟩) hh)
     have hwk : wrOk ts k ⟨KX, NX, FX, ZX⟩ = true := by unfold wrOk; rw [HTK.out, HRT2.out]; simp only [HL12.out.2]; exact decide_eq_true HTr.out.2.1
     have HES := hid (show writeS ts x ⟨KX, NX, FX, ZX⟩ = pJ false M ts k ⟨xk, bk, ek, ak, rk, wk, ik, ok⟩ ts.length by rw [HE.out.1, hwk, HTK.out, HRT2.out]; rfl)
     have HEC := hid (show writeC ts x ⟨KX, NX, FX, ZX⟩ = lastC false M ts ⟨xk, bk, ek, ak, rk, wk, ik, ok⟩ by rw [HE.out.2, hwk, HTK.out, HRT2.out]; rfl)
     have hle2 : ¬ (200 : Int) < (l2 : Int) := by have := HTr.out.2.1; omega
     clear hh hwk
     have k5 : W.cell? ⟨w3.heap.size, 5, none⟩ = some (.slice u2 l2 e2) := by rw [cell_of_row _ _ _ _ _ _ HT4.out]; rfl
     go_wp2_with fail
     clear k5
     obtain ⟨t0, ht0⟩ : ∃ t0 : Tk, ⟨xk, bk, ek, ak, rk, wk, ik, ok⟩ = t0 := ⟨_, rfl⟩
     obtain ⟨m0, hm0⟩ : ∃ m0 : Mt, ⟨.slice u1 l1 e1, mX, .slice u2 l2 e2, mY⟩ = m0 := ⟨_, rfl⟩
     have hset : ps.set k (t0, m0) = ps := by rw [← ht0, ← hm0, ← HPk.out, List.set_getElem_self]
     have HR := HR4
     have HBP := hid (show BandsP W w2.heap.size w3.heap.size (ps.set k (t0, m0)) by rw [hset]; exact HBP4.out)
     have HT := hid (show W.heap[w3.heap.size]? = some (.cells (cellsT1 t0 m0).toArray 52) by rw [← ht0, ← hm0]; exact HT4.out)
     have HX := HX4
     have HB := HB4
     have hS3 : w3.heap.size < W.heap.size := HZ4.out
     have HM0 := hid (show t0.rs = (ts.getD k tk0).rs ∧ m0.y = (ps.getD k pm0).2.y by rw [HTK.out, HMK.out, ← ht0, ← hm0]; exact ⟨rfl, rfl⟩)
     have HM0s := hid (show ∃ s1 s2 s3 s4 s5 s6, m0.y = .slice s1 s2 s3 ∧ m0.z = .slice s4 s5 s6 by rw [← hm0]; exact ⟨_, _, _, _, _, _, rfl, rfl⟩)
     have HP10 := hid (show ∀ p ∈ ps.set k (t0, m0), ∀ b, blkT p.2 b → b = w3.heap.size → False from fun p hp b hb e => by
      have := (HBP.out.own p hp).inr hb
      omega)
     rw [ht0] at HES HEC
     obtain ⟨hi1, hhi1⟩ : ∃ hi1, w3.heap.size = hi1 := ⟨_, rfl⟩
     have hS4 : hi1 ≤ W.heap.size := by omega
     have hS5 : w3.heap.size ≤ hi1 := by omega
     rw [show BandsP W w2.heap.size w3.heap.size (ps.set k (t0, m0)) = BandsP W w2.heap.size hi1 (ps.set k (t0, m0)) by rw [hhi1]] at HBP
     clear hhi1 hset ht0 hm0 HRT2 HR4 HBP4 HT4 HX4 HB4 HZ4 HOwn HoR HoB HPk
     have hp10 : w3.heap.size < W.heap.size := by omega
     go_loopw [11, 12] (fun vc vi wr => ∃ i : Nat, i ≤ n ∧ vi = .int .i64 i ∧ vc = .int .i64 (cdJ false M ts i) ∧ Hid (wr.ownsRow w2.heap.size 52 8 (.slice (some ⟨g, 0, none⟩) n c3) n (cP (qJ false M ps i))) ∧ Hid (BandsP wr w2.heap.size hi1 (ps.set k (t0, m0))) ∧ Hid (wr.heap[w3.heap.size]? = some (.cells (cellsT1 (tJ false M t0 i) m0).toArray 52)) ∧ Hid (BoxJ wr w.heap.size KX NX FX (.slice ax m cx)) ∧ Hid (Below w.heap.size w wr) ∧ W.heap.size ≤ wr.heap.size) (fun _ vi _ => n - (intOf vi).toNat)
     case atStart => exact ⟨0, Nat.zero_le _, rfl, rfl, HR, HBP, by rw [show tJ false M t0 0 = t0 from rfl]; exact HT, HX, HB, Nat.le_refl _⟩
     case round =>
      obtain ⟨i, hin, rfl, rfl, HR, HBP, HT, HX, HB, hsw⟩ := hrel
      obtain ⟨wo, hwo⟩ : ∃ wo, wo = wr := ⟨_, rfl⟩
      subst hwo
      have hqn : (qJ false M ps i).length = n := by rw [qJ_len]; exact HPS.out.2
      by_cases hlt : i < n
      · have hlt' : (i : Int) < (n : Int) := by omega
        have hi0 : (0 : Int) ≤ (i : Int) := by omega
        have hbx := row_box HR.out hqn hlt
        rw [qJ_at false M ps i (by have := HPS.out; omega) i (Nat.le_refl _)] at hbx
        obtain ⟨a1, c1, a2, c2, ey, ez, hp1⟩ := HSLs.out i hlt
        rw [ey, ez, hp1] at hbx
        have hrdW : ReadsM wo a1 (fl2 (ts.getD i tk0).rs) := by
         have hj : i < (ps.set k (t0, m0)).length := by rw [List.length_set]; have := HPS.out; omega
         have ho := HBP.out.own _ (List.getElem_mem hj)
         rw [List.getElem_set] at ho
         by_cases c : k = i
         · rw [if_pos c] at ho
           have h1 := ho.rd
           rw [HM0.out.1, HM0.out.2, c] at h1
           rw [ey] at h1
           exact h1.rd
         · rw [if_neg c] at ho
           have h1 := ho.rd
           have e : ps[i]'(by rw [List.length_set] at hj; exact hj) = ps.getD i pm0 := by simp [List.getD, show i < ps.length by have := HPS.out; omega]
           rw [e, ey, hp1] at h1
           exact h1.rd
        have hsmi := (HSM.out i).1
        have hlni := (HLN.out i).1
        have HDg := hid (show dng false (ts.getD i tk0) = (decide (0 < (ts.getD i tk0).ended) && (ts.getD i tk0).inn) by
         have := (track_small (HOK.out i (by have := HL.out; omega))).2.2.2
         unfold dng
         congr 1
         rw [Bool.eq_iff_iff, decide_eq_true_iff, decide_eq_true_iff]
         omega)
        have HMi := hid (show M i = (!(decide (i = k)) && (concB (ts.getD k tk0) (ts.getD i tk0) && hitR ⟨KX, NX, FX, ZX⟩ (ts.getD i tk0))) from (HM.out i).symm)
        have HCs := hid (cdJ_succ false M ts i)
        have HPi := hid (show ps.getD i pm0 = (ts.getD i tk0, (ps.getD i pm0).2) by rw [← hp1])
        have HMy := hid (And.intro ey ez)
        obtain ⟨ti, hti⟩ : ∃ ti, ts.getD i tk0 = ti := ⟨_, rfl⟩
        rw [hti] at hbx hrdW hsmi hlni HDg HMi HCs HPi HMy
        clear hti ey ez hp1
        obtain ⟨xi, be, en, al, rs, ws, inn, ou⟩ := ti
        obtain ⟨y0, y1, y2, y3, y4, y5, y6, y7⟩ := hbx
        simp only at y0 y1 y2 y3 y4 y5 y6 y7 hrdW hsmi hlni HDg HMy
        obtain ⟨n1, hn1⟩ : ∃ n1, rs.length = n1 := ⟨_, rfl⟩
        obtain ⟨n2, hn2⟩ : ∃ n2, ws.length = n2 := ⟨_, rfl⟩
        rw [hn1] at y4 hlni HMy
        rw [hn2] at y5 HMy
        have HN1 := hid hn1
        have bA := Below.alloc1 wo (.cells #[.int .i64 xi, .int .i64 be, .int .i64 en, .bool al, .slice a1 n1 c1, .slice a2 n2 c2, .bool inn, .bool ou] 52)
        have HRA := hid (heap_alloc_new wo (.cells #[.int .i64 xi, .int .i64 be, .int .i64 en, .bool al, .slice a1 n1 c1, .slice a2 n2 c2, .bool inn, .bool ou] 52))
        have HZA := hid (alloc_size wo (.cells #[.int .i64 xi, .int .i64 be, .int .i64 en, .bool al, .slice a1 n1 c1, .slice a2 n2 c2, .bool inn, .bool ou] 52))
        have HAW := hid bA
        have HRW := hid (hrdW.below bA (Nat.le_refl _))
        have HXA := hid (HX.out.below bA (Nat.le_refl _))
        have HBA := hid (HB.out.trans (bA.mono HB.out.size))
        have HSm := hid hsmi
        clear bA hrdW hn1 hn2 hsmi hqn
        go_wp2
        clear y0 y1 y2 y3 y4 y5 y6 y7
        obtain ⟨wA, hwA⟩ : ∃ wA, wo.alloc (.cells #[.int .i64 xi, .int .i64 be, .int .i64 en, .bool al, .slice a1 n1 c1, .slice a2 n2 c2, .bool inn, .bool ou] 52) = wA := ⟨_, rfl⟩
        rw [hwA] at HRA HZA HAW HRW HXA HBA
        try rw [hwA]
        clear hwA
        obtain ⟨bl, ofl, v1, f1, v2, f2, el, bxl, _, _, _, _⟩ := (HRT.out.below HBA.out (Nat.le_refl _)).at (k := k) HKN.out
        rw [HTK.out] at bxl
        rw [HTK.out] at HMi
        obtain ⟨h1, hh1⟩ : ∃ h1, (⟨xk, bk, ek, ak, rk, wk, ik, ok⟩ : Tk).rs.length = h1 := ⟨_, rfl⟩
        obtain ⟨h2, hh2⟩ : ∃ h2, (⟨xk, bk, ek, ak, rk, wk, ik, ok⟩ : Tk).ws.length = h2 := ⟨_, rfl⟩
        rw [hh1, hh2] at bxl
        subst el
        have bD := (Below.refl wA.heap.size wA).drew
        have HS0 := hid (show (fun V => Box8 V bl (ofl + k * 8) ⟨xk, bk, ek, ak, rk, wk, ik, ok⟩ (.slice v1 h1 f1) (.slice v2 h2 f2) ∧ BoxK V wo.heap.size xi be en al (.slice a1 n1 c1) (.slice a2 n2 c2) inn ou ∧ BoxJ V w.heap.size KX NX FX (.slice ax m cx)) wA.drew from ⟨bxl.below bD (Nat.le_refl _), (BoxK.row HRA.out).below bD (Nat.le_refl _), HXA.out.below bD (Nat.le_refl _)⟩)
        have HID := hid bD
        have HBD := hid (HBA.out.trans (bD.mono HBA.out.size))
        have HRD := hid (HRW.out.below bD (Nat.le_refl _))
        obtain ⟨CB, hCB⟩ : ∃ CB, concB ⟨xk, bk, ek, ak, rk, wk, ik, ok⟩ ⟨xi, be, en, al, rs, ws, inn, ou⟩ = CB := ⟨_, rfl⟩
        obtain ⟨HH, hHH⟩ : ∃ HH, hitR ⟨KX, NX, FX, ZX⟩ ⟨xi, be, en, al, rs, ws, inn, ou⟩ = HH := ⟨_, rfl⟩
        rw [hCB, hHH] at HMi
        have HCB := hid hCB
        have HHH := hid (show readsB ⟨xi, be, en, al, rs, ws, inn, ou⟩ ⟨KX, NX, FX, ZX⟩ = HH from hHH)
        clear bxl bD hCB hHH hh1 hh2
        have after : ∀ u, Below wA.heap.size wA u → Hid (u.ownsRow w2.heap.size 52 8 (.slice (some ⟨g, 0, none⟩) n c3) n (cP (qJ false M ps i)) ∧ BandsP u w2.heap.size hi1 (ps.set k (t0, m0)) ∧ u.heap[w3.heap.size]? = some (.cells (cellsT1 (tJ false M t0 i) m0).toArray 52) ∧ BoxJ u w.heap.size KX NX FX (.slice ax m cx) ∧ Below w.heap.size w u ∧ W.heap.size ≤ u.heap.size ∧ u.heap[wo.heap.size]? = some (.cells #[.int .i64 xi, .int .i64 be, .int .i64 en, .bool al, .slice a1 n1 c1, .slice a2 n2 c2, .bool inn, .bool ou] 52) ∧ wo.heap.size < u.heap.size) := fun u bu => hid (by
         have bb := HAW.out.trans (bu.mono HAW.out.size)
         exact ⟨owns_below bb (Nat.le_refl _) HR.out, HBP.out.keep (Keeps.of_below (X := fun _ => False) bb) (fun _ _ _ _ x => x.elim), (bb.block _ (by omega)).trans HT.out, HX.out.below bb (Nat.le_refl _), HB.out.trans (bb.mono HB.out.size), by have := bb.size; omega, (bu.block _ (by have := HZA.out; omega)).trans HRA.out, by have := bu.size; have := HZA.out; omega⟩)
        have HAf := hid after
        clear after
        by_cases hik : i = k
        · have hq : ((i : Int) == (k : Int)) = true := by simpa using (show (i : Int) = (k : Int) by omega)
          have hMf : M i = false := by rw [HMi.out, decide_eq_true hik]; rfl
          have HQe := hid (qJ_no false M ps hMf)
          have HTe := hid (show tJ false M t0 (i + 1) = tJ false M t0 i by rw [tJ_succ, hMf]; rfl)
          have HCe := hid (show cdJ false M ts (i + 1) = cdJ false M ts i by rw [cdJ_succ, hMf]; rfl)
          clear hik hMf
          refine region_K 99 (fun V => Box8 V bl (ofl + k * 8) ⟨xk, bk, ek, ak, rk, wk, ik, ok⟩ (.slice v1 h1 f1) (.slice v2 h2 f2) ∧ BoxK V wo.heap.size xi be en al (.slice a1 n1 c1) (.slice a2 n2 c2) inn ou ∧ BoxJ V w.heap.size KX NX FX (.slice ax m cx)) (by kernel_rfl) ?_ (fun hHeld => ?_)
          · exact HS0.out
          generalize wA.drew = vD at *
          refine anyK_take2 (i := 0) (v := ?v0_4) rfl (by kernel_rfl) (by kernel_rfl) (by kernel_rfl) (by rfl) (fun _ _ _ h => h) (by rfl) hHeld ?hy0_4 (some 61) (by rfl) ?rest0_4
          case hy0_4 => (intro W hSw; obtain ⟨⟨x0, x1, x2, x3, x4, x5, x6, x7⟩, ⟨x8, x9, x10, x11, x12, x13, x14, x15⟩, x16, x17, x18, x19⟩ := hSw; go_simp; (try with_reducible rfl))
          try simp only [Act.put, List.setIfInBounds_toArray, List.set_cons_succ, List.set_cons_zero]
          refine anyK_take2 (i := 1) (v := ?v1_5) rfl (by kernel_rfl) (by kernel_rfl) (by kernel_rfl) (by rfl) (fun _ _ _ h => h) (by rfl) hHeld ?hy1_5 (some 62) (by rfl) ?rest1_5
          case hy1_5 => (intro W hSw; obtain ⟨⟨x0, x1, x2, x3, x4, x5, x6, x7⟩, ⟨x8, x9, x10, x11, x12, x13, x14, x15⟩, x16, x17, x18, x19⟩ := hSw; go_simp; (try with_reducible rfl))
          try simp only [Act.put, List.setIfInBounds_toArray, List.set_cons_succ, List.set_cons_zero]
          refine anyK_take2 (i := 2) (v := ?v2_6) rfl (by kernel_rfl) (by kernel_rfl) (by kernel_rfl) (by rfl) (fun _ _ _ h => h) (by rfl) hHeld ?hy2_6 (some 63) (by rfl) ?rest2_6
          case hy2_6 => (intro W hSw; obtain ⟨⟨x0, x1, x2, x3, x4, x5, x6, x7⟩, ⟨x8, x9, x10, x11, x12, x13, x14, x15⟩, x16, x17, x18, x19⟩ := hSw; go_simp; (try with_reducible rfl))
          try simp only [Act.put, List.setIfInBounds_toArray, List.set_cons_succ, List.set_cons_zero]
          refine anyK_take2 (i := 3) (v := ?v3_7) rfl (by kernel_rfl) (by kernel_rfl) (by kernel_rfl) (by rfl) (fun _ _ _ h => h) (by rfl) hHeld ?hy3_7 (some 64) (by rfl) ?rest3_7
          case hy3_7 => (intro W hSw; obtain ⟨⟨x0, x1, x2, x3, x4, x5, x6, x7⟩, ⟨x8, x9, x10, x11, x12, x13, x14, x15⟩, x16, x17, x18, x19⟩ := hSw; go_simp; (try with_reducible rfl))
          try simp only [Act.put, List.setIfInBounds_toArray, List.set_cons_succ, List.set_cons_zero]
          refine anyK_skip (i := 4) rfl (by kernel_rfl) (by kernel_rfl) (by kernel_rfl) (by kernel_rfl) (fun _ _ _ h => h) (by rfl) hHeld (some 65) (by rfl) ?_
          try simp only [Act.put, List.setIfInBounds_toArray, List.set_cons_succ, List.set_cons_zero]
          refine anyK_skip (i := 5) rfl (by kernel_rfl) (by kernel_rfl) (by kernel_rfl) (by kernel_rfl) (fun _ _ _ h => h) (by rfl) hHeld (some 66) (by rfl) ?_
          try simp only [Act.put, List.setIfInBounds_toArray, List.set_cons_succ, List.set_cons_zero]
          refine anyK_skip (i := 6) rfl (by kernel_rfl) (by kernel_rfl) (by kernel_rfl) (by kernel_rfl) (fun _ _ _ h => h) (by rfl) hHeld (some 67) (by rfl) ?_
          try simp only [Act.put, List.setIfInBounds_toArray, List.set_cons_succ, List.set_cons_zero]
          refine anyK_skip (i := 7) rfl (by kernel_rfl) (by kernel_rfl) (by kernel_rfl) (by kernel_rfl) (fun _ _ _ h => h) (by rfl) hHeld (some 68) (by rfl) ?_
          try simp only [Act.put, List.setIfInBounds_toArray, List.set_cons_succ, List.set_cons_zero]
          refine anyK_take2 (i := 8) (v := ?v8_8) rfl (by kernel_rfl) (by kernel_rfl) (by kernel_rfl) (by rfl) (fun _ _ _ h => h) (by rfl) hHeld ?hy8_8 (some 69) (by rfl) ?rest8_8
          case hy8_8 => (intro W hSw; obtain ⟨⟨x0, x1, x2, x3, x4, x5, x6, x7⟩, ⟨x8, x9, x10, x11, x12, x13, x14, x15⟩, x16, x17, x18, x19⟩ := hSw; go_simp; (try with_reducible rfl))
          try simp only [Act.put, List.setIfInBounds_toArray, List.set_cons_succ, List.set_cons_zero]
          refine anyK_take2 (i := 9) (v := ?v9_9) rfl (by kernel_rfl) (by kernel_rfl) (by kernel_rfl) (by rfl) (fun _ _ _ h => h) (by rfl) hHeld ?hy9_9 (some 70) (by rfl) ?rest9_9
          case hy9_9 => (intro W hSw; obtain ⟨⟨x0, x1, x2, x3, x4, x5, x6, x7⟩, ⟨x8, x9, x10, x11, x12, x13, x14, x15⟩, x16, x17, x18, x19⟩ := hSw; go_simp; (try with_reducible rfl))
          try simp only [Act.put, List.setIfInBounds_toArray, List.set_cons_succ, List.set_cons_zero]
          refine anyK_skip (i := 10) rfl (by kernel_rfl) (by kernel_rfl) (by kernel_rfl) (by kernel_rfl) (fun _ _ _ h => h) (by rfl) hHeld (some 71) (by rfl) ?_
          try simp only [Act.put, List.setIfInBounds_toArray, List.set_cons_succ, List.set_cons_zero]
          refine anyK_skip (i := 11) rfl (by kernel_rfl) (by kernel_rfl) (by kernel_rfl) (by kernel_rfl) (fun _ _ _ h => h) (by rfl) hHeld (some 72) (by rfl) ?_
          try simp only [Act.put, List.setIfInBounds_toArray, List.set_cons_succ, List.set_cons_zero]
          refine anyK_skip (i := 12) rfl (by kernel_rfl) (by kernel_rfl) (by kernel_rfl) (by kernel_rfl) (fun _ _ _ h => h) (by rfl) hHeld (some 73) (by rfl) ?_
          try simp only [Act.put, List.setIfInBounds_toArray, List.set_cons_succ, List.set_cons_zero]
          refine anyK_skip (i := 13) rfl (by kernel_rfl) (by kernel_rfl) (by kernel_rfl) (by kernel_rfl) (fun _ _ _ h => h) (by rfl) hHeld (some 74) (by rfl) ?_
          try simp only [Act.put, List.setIfInBounds_toArray, List.set_cons_succ, List.set_cons_zero]
          refine anyK_skip (i := 14) rfl (by kernel_rfl) (by kernel_rfl) (by kernel_rfl) (by kernel_rfl) (fun _ _ _ h => h) (by rfl) hHeld (some 75) (by rfl) ?_
          try simp only [Act.put, List.setIfInBounds_toArray, List.set_cons_succ, List.set_cons_zero]
          refine anyK_skip (i := 15) rfl (by kernel_rfl) (by kernel_rfl) (by kernel_rfl) (by kernel_rfl) (fun _ _ _ h => h) (by rfl) hHeld (some 76) (by rfl) ?_
          try simp only [Act.put, List.setIfInBounds_toArray, List.set_cons_succ, List.set_cons_zero]
          refine anyK_skip (i := 16) rfl (by kernel_rfl) (by kernel_rfl) (by kernel_rfl) (by kernel_rfl) (fun _ _ _ h => h) (by rfl) hHeld (some 77) (by rfl) ?_
          try simp only [Act.put, List.setIfInBounds_toArray, List.set_cons_succ, List.set_cons_zero]
          refine anyK_take2 (i := 17) (v := ?v17_10) rfl (by kernel_rfl) (by kernel_rfl) (by kernel_rfl) (by rfl) (fun _ _ _ h => h) (by rfl) hHeld ?hy17_10 (some 78) (by rfl) ?rest17_10
          case hy17_10 => (intro W hSw; obtain ⟨⟨x0, x1, x2, x3, x4, x5, x6, x7⟩, ⟨x8, x9, x10, x11, x12, x13, x14, x15⟩, x16, x17, x18, x19⟩ := hSw; go_simp; (try with_reducible rfl))
          try simp only [Act.put, List.setIfInBounds_toArray, List.set_cons_succ, List.set_cons_zero]
          refine anyK_done (by kernel_rfl) ?_ _
          clear hHeld
          go_wp2_with fail
          go_roundw
          case rel => exact ⟨i + 1, by omega, by go_num, by rw [HCe.out], hid (by rw [HQe.out]; exact (HAf.out _ HID.out).out.1), hid (HAf.out _ HID.out).out.2.1, hid (by rw [HTe.out]; exact (HAf.out _ HID.out).out.2.2.1), hid (HAf.out _ HID.out).out.2.2.2.1, hid (HAf.out _ HID.out).out.2.2.2.2.1, (HAf.out _ HID.out).out.2.2.2.2.2.1⟩
          case measure => simp [intOf]; omega
        · have hq : ((i : Int) == (k : Int)) = false := by simpa using (show ¬ (i : Int) = (k : Int) by omega)
          refine region_K 99 (fun V => Box8 V bl (ofl + k * 8) ⟨xk, bk, ek, ak, rk, wk, ik, ok⟩ (.slice v1 h1 f1) (.slice v2 h2 f2) ∧ BoxK V wo.heap.size xi be en al (.slice a1 n1 c1) (.slice a2 n2 c2) inn ou ∧ BoxJ V w.heap.size KX NX FX (.slice ax m cx)) (by kernel_rfl) ?_ (fun hHeld => ?_)
          · exact HS0.out
          generalize wA.drew = vD at *
          refine anyK_take2 (i := 0) (v := ?v0_11) rfl (by kernel_rfl) (by kernel_rfl) (by kernel_rfl) (by rfl) (fun _ _ _ h => h) (by rfl) hHeld ?hy0_11 (some 61) (by rfl) ?rest0_11
          case hy0_11 => (intro W hSw; obtain ⟨⟨x0, x1, x2, x3, x4, x5, x6, x7⟩, ⟨x8, x9, x10, x11, x12, x13, x14, x15⟩, x16, x17, x18, x19⟩ := hSw; go_simp; (try with_reducible rfl))
          try simp only [Act.put, List.setIfInBounds_toArray, List.set_cons_succ, List.set_cons_zero]
          refine anyK_take2 (i := 1) (v := ?v1_12) rfl (by kernel_rfl) (by kernel_rfl) (by kernel_rfl) (by rfl) (fun _ _ _ h => h) (by rfl) hHeld ?hy1_12 (some 62) (by rfl) ?rest1_12
          case hy1_12 => (intro W hSw; obtain ⟨⟨x0, x1, x2, x3, x4, x5, x6, x7⟩, ⟨x8, x9, x10, x11, x12, x13, x14, x15⟩, x16, x17, x18, x19⟩ := hSw; go_simp; (try with_reducible rfl))
          try simp only [Act.put, List.setIfInBounds_toArray, List.set_cons_succ, List.set_cons_zero]
          refine anyK_take2 (i := 2) (v := ?v2_13) rfl (by kernel_rfl) (by kernel_rfl) (by kernel_rfl) (by rfl) (fun _ _ _ h => h) (by rfl) hHeld ?hy2_13 (some 63) (by rfl) ?rest2_13
          case hy2_13 => (intro W hSw; obtain ⟨⟨x0, x1, x2, x3, x4, x5, x6, x7⟩, ⟨x8, x9, x10, x11, x12, x13, x14, x15⟩, x16, x17, x18, x19⟩ := hSw; go_simp; (try with_reducible rfl))
          try simp only [Act.put, List.setIfInBounds_toArray, List.set_cons_succ, List.set_cons_zero]
          refine anyK_take2 (i := 3) (v := ?v3_14) rfl (by kernel_rfl) (by kernel_rfl) (by kernel_rfl) (by rfl) (fun _ _ _ h => h) (by rfl) hHeld ?hy3_14 (some 64) (by rfl) ?rest3_14
          case hy3_14 => (intro W hSw; obtain ⟨⟨x0, x1, x2, x3, x4, x5, x6, x7⟩, ⟨x8, x9, x10, x11, x12, x13, x14, x15⟩, x16, x17, x18, x19⟩ := hSw; go_simp; (try with_reducible rfl))
          try simp only [Act.put, List.setIfInBounds_toArray, List.set_cons_succ, List.set_cons_zero]
          refine anyK_take2 (i := 4) (v := ?v4_15) rfl (by kernel_rfl) (by kernel_rfl) (by kernel_rfl) (by rfl) (fun _ _ _ h => h) (by rfl) hHeld ?hy4_15 (some 65) (by rfl) ?rest4_15
          case hy4_15 => (intro W hSw; obtain ⟨⟨x0, x1, x2, x3, x4, x5, x6, x7⟩, ⟨x8, x9, x10, x11, x12, x13, x14, x15⟩, x16, x17, x18, x19⟩ := hSw; go_simp; (try with_reducible rfl))
          try simp only [Act.put, List.setIfInBounds_toArray, List.set_cons_succ, List.set_cons_zero]
          refine anyK_take2 (i := 5) (v := ?v5_16) rfl (by kernel_rfl) (by kernel_rfl) (by kernel_rfl) (by rfl) (fun _ _ _ h => h) (by rfl) hHeld ?hy5_16 (some 66) (by rfl) ?rest5_16
          case hy5_16 => (intro W hSw; obtain ⟨⟨x0, x1, x2, x3, x4, x5, x6, x7⟩, ⟨x8, x9, x10, x11, x12, x13, x14, x15⟩, x16, x17, x18, x19⟩ := hSw; go_simp; (try with_reducible rfl))
          try simp only [Act.put, List.setIfInBounds_toArray, List.set_cons_succ, List.set_cons_zero]
          refine anyK_step (i := 6) (by kernel_rfl) rfl (fun KP hK => ?_)
          go_simp
          refine (spec_TrackReads_n ⟨xi, be, en, al, rs, ws, inn, ou⟩ ⟨KX, NX, FX, ZX⟩ c1 (.slice a2 n2 c2) cx HN1.out HQ.out.len HRD.out (HQ.out.below HBD.out (Nat.le_refl _)) hfx hzx HSm.out (by omega)).mono ?_
          rintro e vR ⟨rfl, b1⟩
          rw [HHH.out]
          have HS1 := hid (show (fun V => Box8 V bl (ofl + k * 8) ⟨xk, bk, ek, ak, rk, wk, ik, ok⟩ (.slice v1 h1 f1) (.slice v2 h2 f2) ∧ BoxK V wo.heap.size xi be en al (.slice a1 n1 c1) (.slice a2 n2 c2) inn ou ∧ BoxJ V w.heap.size KX NX FX (.slice ax m cx)) vR from ⟨HS0.out.1.below b1 (Nat.le_refl _), HS0.out.2.1.below b1 (Nat.le_refl _), HS0.out.2.2.below b1 (Nat.le_refl _)⟩)
          have HRDx := hid (HID.out.trans (b1.mono HID.out.size))
          clear b1
          go_wp2_with fail
          clear hHeld
          refine hK.out _ _ HS1.out (fun hHeld => ?_)
          clear hK KP
          try simp only [Act.put, List.setIfInBounds_toArray, List.set_cons_succ, List.set_cons_zero]
          cases HH with
          | false =>
           have hMf : M i = false := by rw [HMi.out, Bool.and_false, Bool.and_false]
           have HQe := hid (qJ_no false M ps hMf)
           have HTe := hid (show tJ false M t0 (i + 1) = tJ false M t0 i by rw [tJ_succ, hMf]; rfl)
           have HCe := hid (show cdJ false M ts (i + 1) = cdJ false M ts i by rw [cdJ_succ, hMf]; rfl)
           clear hik hMf
           refine anyK_take2 (i := 7) (v := ?v7_17) rfl (by kernel_rfl) (by kernel_rfl) (by kernel_rfl) (by rfl) (fun _ _ _ h => h) (by rfl) hHeld ?hy7_17 (some 68) (by rfl) ?rest7_17
           case hy7_17 => (intro W hSw; obtain ⟨⟨x0, x1, x2, x3, x4, x5, x6, x7⟩, ⟨x8, x9, x10, x11, x12, x13, x14, x15⟩, x16, x17, x18, x19⟩ := hSw; go_simp; (try with_reducible rfl))
           try simp only [Act.put, List.setIfInBounds_toArray, List.set_cons_succ, List.set_cons_zero]
           refine anyK_take2 (i := 8) (v := ?v8_18) rfl (by kernel_rfl) (by kernel_rfl) (by kernel_rfl) (by rfl) (fun _ _ _ h => h) (by rfl) hHeld ?hy8_18 (some 69) (by rfl) ?rest8_18
           case hy8_18 => (intro W hSw; obtain ⟨⟨x0, x1, x2, x3, x4, x5, x6, x7⟩, ⟨x8, x9, x10, x11, x12, x13, x14, x15⟩, x16, x17, x18, x19⟩ := hSw; go_simp; (try with_reducible rfl))
           try simp only [Act.put, List.setIfInBounds_toArray, List.set_cons_succ, List.set_cons_zero]
           refine anyK_take2 (i := 9) (v := ?v9_19) rfl (by kernel_rfl) (by kernel_rfl) (by kernel_rfl) (by rfl) (fun _ _ _ h => h) (by rfl) hHeld ?hy9_19 (some 70) (by rfl) ?rest9_19
           case hy9_19 => (intro W hSw; obtain ⟨⟨x0, x1, x2, x3, x4, x5, x6, x7⟩, ⟨x8, x9, x10, x11, x12, x13, x14, x15⟩, x16, x17, x18, x19⟩ := hSw; go_simp; (try with_reducible rfl))
           try simp only [Act.put, List.setIfInBounds_toArray, List.set_cons_succ, List.set_cons_zero]
           refine anyK_skip (i := 10) rfl (by kernel_rfl) (by kernel_rfl) (by kernel_rfl) (by kernel_rfl) (fun _ _ _ h => h) (by rfl) hHeld (some 71) (by rfl) ?_
           try simp only [Act.put, List.setIfInBounds_toArray, List.set_cons_succ, List.set_cons_zero]
           refine anyK_skip (i := 11) rfl (by kernel_rfl) (by kernel_rfl) (by kernel_rfl) (by kernel_rfl) (fun _ _ _ h => h) (by rfl) hHeld (some 72) (by rfl) ?_
           try simp only [Act.put, List.setIfInBounds_toArray, List.set_cons_succ, List.set_cons_zero]
           refine anyK_skip (i := 12) rfl (by kernel_rfl) (by kernel_rfl) (by kernel_rfl) (by kernel_rfl) (fun _ _ _ h => h) (by rfl) hHeld (some 73) (by rfl) ?_
           try simp only [Act.put, List.setIfInBounds_toArray, List.set_cons_succ, List.set_cons_zero]
           refine anyK_skip (i := 13) rfl (by kernel_rfl) (by kernel_rfl) (by kernel_rfl) (by kernel_rfl) (fun _ _ _ h => h) (by rfl) hHeld (some 74) (by rfl) ?_
           try simp only [Act.put, List.setIfInBounds_toArray, List.set_cons_succ, List.set_cons_zero]
           refine anyK_skip (i := 14) rfl (by kernel_rfl) (by kernel_rfl) (by kernel_rfl) (by kernel_rfl) (fun _ _ _ h => h) (by rfl) hHeld (some 75) (by rfl) ?_
           try simp only [Act.put, List.setIfInBounds_toArray, List.set_cons_succ, List.set_cons_zero]
           refine anyK_skip (i := 15) rfl (by kernel_rfl) (by kernel_rfl) (by kernel_rfl) (by kernel_rfl) (fun _ _ _ h => h) (by rfl) hHeld (some 76) (by rfl) ?_
           try simp only [Act.put, List.setIfInBounds_toArray, List.set_cons_succ, List.set_cons_zero]
           refine anyK_skip (i := 16) rfl (by kernel_rfl) (by kernel_rfl) (by kernel_rfl) (by kernel_rfl) (fun _ _ _ h => h) (by rfl) hHeld (some 77) (by rfl) ?_
           try simp only [Act.put, List.setIfInBounds_toArray, List.set_cons_succ, List.set_cons_zero]
           refine anyK_take2 (i := 17) (v := ?v17_20) rfl (by kernel_rfl) (by kernel_rfl) (by kernel_rfl) (by rfl) (fun _ _ _ h => h) (by rfl) hHeld ?hy17_20 (some 78) (by rfl) ?rest17_20
           case hy17_20 => (intro W hSw; obtain ⟨⟨x0, x1, x2, x3, x4, x5, x6, x7⟩, ⟨x8, x9, x10, x11, x12, x13, x14, x15⟩, x16, x17, x18, x19⟩ := hSw; go_simp; (try with_reducible rfl))
           try simp only [Act.put, List.setIfInBounds_toArray, List.set_cons_succ, List.set_cons_zero]
           refine anyK_done (by kernel_rfl) ?_ _
           clear hHeld
           go_wp2_with fail
           go_roundw
           case rel => exact ⟨i + 1, by omega, by go_num, by rw [HCe.out], hid (by rw [HQe.out]; exact (HAf.out _ HRDx.out).out.1), hid (HAf.out _ HRDx.out).out.2.1, hid (by rw [HTe.out]; exact (HAf.out _ HRDx.out).out.2.2.1), hid (HAf.out _ HRDx.out).out.2.2.2.1, hid (HAf.out _ HRDx.out).out.2.2.2.2.1, (HAf.out _ HRDx.out).out.2.2.2.2.2.1⟩
           case measure => simp [intOf]; omega
          | true =>
           replace HMi := hid (show M i = CB by rw [HMi.out, decide_eq_false hik, Bool.and_true]; rfl)
           refine anyK_take2 (i := 7) (v := ?v7_21) rfl (by kernel_rfl) (by kernel_rfl) (by kernel_rfl) (by rfl) (fun _ _ _ h => h) (by rfl) hHeld ?hy7_21 (some 68) (by rfl) ?rest7_21
           case hy7_21 => (intro W hSw; obtain ⟨⟨x0, x1, x2, x3, x4, x5, x6, x7⟩, ⟨x8, x9, x10, x11, x12, x13, x14, x15⟩, x16, x17, x18, x19⟩ := hSw; go_simp; (try with_reducible rfl))
           try simp only [Act.put, List.setIfInBounds_toArray, List.set_cons_succ, List.set_cons_zero]
           refine anyK_take2 (i := 8) (v := ?v8_22) rfl (by kernel_rfl) (by kernel_rfl) (by kernel_rfl) (by rfl) (fun _ _ _ h => h) (by rfl) hHeld ?hy8_22 (some 69) (by rfl) ?rest8_22
           case hy8_22 => (intro W hSw; obtain ⟨⟨x0, x1, x2, x3, x4, x5, x6, x7⟩, ⟨x8, x9, x10, x11, x12, x13, x14, x15⟩, x16, x17, x18, x19⟩ := hSw; go_simp; (try with_reducible rfl))
           try simp only [Act.put, List.setIfInBounds_toArray, List.set_cons_succ, List.set_cons_zero]
           refine anyK_take2 (i := 9) (v := ?v9_23) rfl (by kernel_rfl) (by kernel_rfl) (by kernel_rfl) (by rfl) (fun _ _ _ h => h) (by rfl) hHeld ?hy9_23 (some 70) (by rfl) ?rest9_23
           case hy9_23 => (intro W hSw; obtain ⟨⟨x0, x1, x2, x3, x4, x5, x6, x7⟩, ⟨x8, x9, x10, x11, x12, x13, x14, x15⟩, x16, x17, x18, x19⟩ := hSw; go_simp; (try with_reducible rfl))
           try simp only [Act.put, List.setIfInBounds_toArray, List.set_cons_succ, List.set_cons_zero]
           refine anyK_take2 (i := 10) (v := ?v10_24) rfl (by kernel_rfl) (by kernel_rfl) (by kernel_rfl) (by rfl) (fun _ _ _ h => h) (by rfl) hHeld ?hy10_24 (some 71) (by rfl) ?rest10_24
           case hy10_24 => (intro W hSw; obtain ⟨⟨x0, x1, x2, x3, x4, x5, x6, x7⟩, ⟨x8, x9, x10, x11, x12, x13, x14, x15⟩, x16, x17, x18, x19⟩ := hSw; go_simp; (try with_reducible rfl))
           try simp only [Act.put, List.setIfInBounds_toArray, List.set_cons_succ, List.set_cons_zero]
           refine anyK_take2 (i := 11) (v := ?v11_25) rfl (by kernel_rfl) (by kernel_rfl) (by kernel_rfl) (by rfl) (fun _ _ _ h => h) (by rfl) hHeld ?hy11_25 (some 72) (by rfl) ?rest11_25
           case hy11_25 => (intro W hSw; obtain ⟨⟨x0, x1, x2, x3, x4, x5, x6, x7⟩, ⟨x8, x9, x10, x11, x12, x13, x14, x15⟩, x16, x17, x18, x19⟩ := hSw; go_simp; (try with_reducible rfl))
           try simp only [Act.put, List.setIfInBounds_toArray, List.set_cons_succ, List.set_cons_zero]
           refine anyK_take2 (i := 12) (v := ?v12_26) rfl (by kernel_rfl) (by kernel_rfl) (by kernel_rfl) (by rfl) (fun _ _ _ h => h) (by rfl) hHeld ?hy12_26 (some 73) (by rfl) ?rest12_26
           case hy12_26 => (intro W hSw; obtain ⟨⟨x0, x1, x2, x3, x4, x5, x6, x7⟩, ⟨x8, x9, x10, x11, x12, x13, x14, x15⟩, x16, x17, x18, x19⟩ := hSw; go_simp; (try with_reducible rfl))
           try simp only [Act.put, List.setIfInBounds_toArray, List.set_cons_succ, List.set_cons_zero]
           refine anyK_take2 (i := 13) (v := ?v13_27) rfl (by kernel_rfl) (by kernel_rfl) (by kernel_rfl) (by rfl) (fun _ _ _ h => h) (by rfl) hHeld ?hy13_27 (some 74) (by rfl) ?rest13_27
           case hy13_27 => (intro W hSw; obtain ⟨⟨x0, x1, x2, x3, x4, x5, x6, x7⟩, ⟨x8, x9, x10, x11, x12, x13, x14, x15⟩, x16, x17, x18, x19⟩ := hSw; go_simp; (try with_reducible rfl))
           try simp only [Act.put, List.setIfInBounds_toArray, List.set_cons_succ, List.set_cons_zero]
           refine anyK_take2 (i := 14) (v := ?v14_28) rfl (by kernel_rfl) (by kernel_rfl) (by kernel_rfl) (by rfl) (fun _ _ _ h => h) (by rfl) hHeld ?hy14_28 (some 75) (by rfl) ?rest14_28
           case hy14_28 => (intro W hSw; obtain ⟨⟨x0, x1, x2, x3, x4, x5, x6, x7⟩, ⟨x8, x9, x10, x11, x12, x13, x14, x15⟩, x16, x17, x18, x19⟩ := hSw; go_simp; (try with_reducible rfl))
           try simp only [Act.put, List.setIfInBounds_toArray, List.set_cons_succ, List.set_cons_zero]
           refine anyK_step (i := 15) (by kernel_rfl) rfl (fun KP hK => ?_)
           go_simp
           refine (spec_Concurrent ⟨xk, bk, ek, ak, rk, wk, ik, ok⟩ ⟨xi, be, en, al, rs, ws, inn, ou⟩ (.slice v1 h1 f1) (.slice v2 h2 f2) (.slice a1 n1 c1) (.slice a2 n2 c2) _).mono ?_
           rintro e u ⟨rfl, b1⟩
           rw [HCB.out]
           have HS2 := hid (show (fun V => Box8 V bl (ofl + k * 8) ⟨xk, bk, ek, ak, rk, wk, ik, ok⟩ (.slice v1 h1 f1) (.slice v2 h2 f2) ∧ BoxK V wo.heap.size xi be en al (.slice a1 n1 c1) (.slice a2 n2 c2) inn ou ∧ BoxJ V w.heap.size KX NX FX (.slice ax m cx)) u from ⟨HS1.out.1.below b1 (Nat.le_refl _), HS1.out.2.1.below b1 (Nat.le_refl _), HS1.out.2.2.below b1 (Nat.le_refl _)⟩)
           have HUD := hid (HRDx.out.trans (b1.mono HRDx.out.size))
           clear b1
           go_wp2_with fail
           clear hHeld
           refine hK.out _ _ HS2.out (fun hHeld => ?_)
           clear hK KP
           try simp only [Act.put, List.setIfInBounds_toArray, List.set_cons_succ, List.set_cons_zero]
           cases CB with
           | false =>
            have hMf := HMi.out
            have HQe := hid (qJ_no false M ps hMf)
            have HTe := hid (show tJ false M t0 (i + 1) = tJ false M t0 i by rw [tJ_succ, hMf]; rfl)
            have HCe := hid (show cdJ false M ts (i + 1) = cdJ false M ts i by rw [cdJ_succ, hMf]; rfl)
            clear hMf
            refine anyK_take2 (i := 16) (v := ?v16_29) rfl (by kernel_rfl) (by kernel_rfl) (by kernel_rfl) (by rfl) (fun _ _ _ h => h) (by rfl) hHeld ?hy16_29 (some 77) (by rfl) ?rest16_29
            case hy16_29 => (intro W hSw; obtain ⟨⟨x0, x1, x2, x3, x4, x5, x6, x7⟩, ⟨x8, x9, x10, x11, x12, x13, x14, x15⟩, x16, x17, x18, x19⟩ := hSw; go_simp; (try with_reducible rfl))
            try simp only [Act.put, List.setIfInBounds_toArray, List.set_cons_succ, List.set_cons_zero]
            refine anyK_take2 (i := 17) (v := ?v17_30) rfl (by kernel_rfl) (by kernel_rfl) (by kernel_rfl) (by rfl) (fun _ _ _ h => h) (by rfl) hHeld ?hy17_30 (some 78) (by rfl) ?rest17_30
            case hy17_30 => (intro W hSw; obtain ⟨⟨x0, x1, x2, x3, x4, x5, x6, x7⟩, ⟨x8, x9, x10, x11, x12, x13, x14, x15⟩, x16, x17, x18, x19⟩ := hSw; go_simp; (try with_reducible rfl))
            try simp only [Act.put, List.setIfInBounds_toArray, List.set_cons_succ, List.set_cons_zero]
            refine anyK_done (by kernel_rfl) ?_ _
            clear hHeld
            go_wp2_with fail
            go_roundw
            case rel => exact ⟨i + 1, by omega, by go_num, by rw [HCe.out], hid (by rw [HQe.out]; exact (HAf.out _ HUD.out).out.1), hid (HAf.out _ HUD.out).out.2.1, hid (by rw [HTe.out]; exact (HAf.out _ HUD.out).out.2.2.1), hid (HAf.out _ HUD.out).out.2.2.2.1, hid (HAf.out _ HUD.out).out.2.2.2.2.1, (HAf.out _ HUD.out).out.2.2.2.2.2.1⟩
            case measure => simp [intOf]; omega
           | true =>
            have hMt := HMi.out
            have HQe := hid (qJ_yes false M ps hMt)
            have HTe := hid (show tJ false M t0 (i + 1) = oth true (tJ false M t0 i) by rw [tJ_succ, hMt]; rfl)
            replace HCs := hid (show cdJ false M ts (i + 1) = if (decide (0 < en) && inn) = true then 2 else cdJ false M ts i by rw [HCs.out, hMt, Bool.true_and, HDg.out])
            clear hMt
            refine anyK_take2 (i := 16) (v := ?v16_31) rfl (by kernel_rfl) (by kernel_rfl) (by kernel_rfl) (by rfl) (fun _ _ _ h => h) (by rfl) hHeld ?hy16_31 (some 77) (by rfl) ?rest16_31
            case hy16_31 => (intro W hSw; obtain ⟨⟨x0, x1, x2, x3, x4, x5, x6, x7⟩, ⟨x8, x9, x10, x11, x12, x13, x14, x15⟩, x16, x17, x18, x19⟩ := hSw; go_simp; (try with_reducible rfl))
            try simp only [Act.put, List.setIfInBounds_toArray, List.set_cons_succ, List.set_cons_zero]
            refine anyK_take2 (i := 17) (v := ?v17_32) rfl (by kernel_rfl) (by kernel_rfl) (by kernel_rfl) (by rfl) (fun _ _ _ h => h) (by rfl) hHeld ?hy17_32 (some 78) (by rfl) ?rest17_32
            case hy17_32 => (intro W hSw; obtain ⟨⟨x0, x1, x2, x3, x4, x5, x6, x7⟩, ⟨x8, x9, x10, x11, x12, x13, x14, x15⟩, x16, x17, x18, x19⟩ := hSw; go_simp; (try with_reducible rfl))
            try simp only [Act.put, List.setIfInBounds_toArray, List.set_cons_succ, List.set_cons_zero]
            refine anyK_done (by kernel_rfl) ?_ _
            clear hHeld
            obtain ⟨f1, f2, f3, f4, f5, f6, f7, f8⟩ := (HAf.out _ HUD.out).out
            have hne1 : ¬ wo.heap.size = w3.heap.size := by omega
            have hne2 : ¬ w3.heap.size = wo.heap.size := by omega
            have hgw := HGL.out
            have z0 := cell_of_row _ _ 0 _ _ _ f7
            have z1 := cell_of_row _ _ 1 _ _ _ f7
            have z2 := cell_of_row _ _ 2 _ _ _ f7
            have z3 := cell_of_row _ _ 3 _ _ _ f7
            have z4 := cell_of_row _ _ 4 _ _ _ f7
            have z5 := cell_of_row _ _ 5 _ _ _ f7
            have z6 := cell_of_row _ _ 6 _ _ _ f7
            have z7 := cell_of_row _ _ 7 _ _ _ f7
            have zf : u.frozen? ⟨wo.heap.size, 7, none⟩ = false := frozen_of_row _ _ _ _ _ f7
            have k7 : ∃ v, u.cell? ⟨w3.heap.size, 6, none⟩ = some v := ⟨_, by rw [cell_of_row _ _ _ _ _ _ f3]; rfl⟩
            obtain ⟨v7, k7⟩ := k7
            have kf : u.frozen? ⟨w3.heap.size, 6, none⟩ = false := frozen_of_row _ _ _ _ _ f3
            have Ka := Keeps.set (X := fun b => b = wo.heap.size) u (p := ⟨wo.heap.size, 7, none⟩) rfl (.bool true)
            have Kb := Keeps.set (X := fun b => b = w3.heap.size) (u.setCell ⟨wo.heap.size, 7, none⟩ (.bool true)) (p := ⟨w3.heap.size, 6, none⟩) rfl (.bool true)
            have zu2 : ((u.setCell ⟨wo.heap.size, 7, none⟩ (.bool true)).setCell ⟨w3.heap.size, 6, none⟩ (.bool true)).heap.size = u.heap.size := by rw [set_size13, set_size13]
            have oR2 := owns_keep (owns_keep f1 Ka (fun b hb e => by
             obtain rfl : g = b := by simpa [Value.ownBlock] using hb
             omega)) Kb (fun b hb e => by
             obtain rfl : g = b := by simpa [Value.ownBlock] using hb
             omega)
            have oR3 := owns_row8 oR2 (by rw [qJ_len]; exact HPS.out.2) hlt (⟨xi, be, en, al, rs, ws, inn, true⟩, (ps.getD i pm0).2)
            have hth := row_there oR2 hlt
            have ev : cellsT1 (⟨xi, be, en, al, rs, ws, inn, true⟩ : Tk) (ps.getD i pm0).2 = [.int .i64 xi, .int .i64 be, .int .i64 en, .bool al, .slice a1 n1 c1, .slice a2 n2 c2, .bool inn, .bool true] := by simp only [cellsT1, HMy.out.1, HMy.out.2]
            simp only at oR3
            rw [ev] at oR3
            have Kc := Keeps.cells g [.int .i64 xi, .int .i64 be, .int .i64 en, .bool al, .slice a1 n1 c1, .slice a2 n2 c2, .bool inn, .bool true] (i * 8) ((u.setCell ⟨wo.heap.size, 7, none⟩ (.bool true)).setCell ⟨w3.heap.size, 6, none⟩ (.bool true))
            have zu3 := size_setCells13 g [.int .i64 xi, .int .i64 be, .int .i64 en, .bool al, .slice a1 n1 c1, .slice a2 n2 c2, .bool inn, .bool true] (i * 8) ((u.setCell ⟨wo.heap.size, 7, none⟩ (.bool true)).setCell ⟨w3.heap.size, 6, none⟩ (.bool true))
            have KK : ∀ b, b < u.heap.size → b ≠ g → b ≠ wo.heap.size → b ≠ w3.heap.size → (((u.setCell ⟨wo.heap.size, 7, none⟩ (.bool true)).setCell ⟨w3.heap.size, 6, none⟩ (.bool true)).setCells g (i * 8) [.int .i64 xi, .int .i64 be, .int .i64 en, .bool al, .slice a1 n1 c1, .slice a2 n2 c2, .bool inn, .bool true]).heap[b]? = u.heap[b]? := fun b hb q1 q2 q3 => (Kc.block b (by omega) q1).trans ((Kb.block b (by rw [set_size13]; exact hb) q3).trans (Ka.block b hb q2))
            have r13 : (((u.setCell ⟨wo.heap.size, 7, none⟩ (.bool true)).setCell ⟨w3.heap.size, 6, none⟩ (.bool true)).setCells g (i * 8) [.int .i64 xi, .int .i64 be, .int .i64 en, .bool al, .slice a1 n1 c1, .slice a2 n2 c2, .bool inn, .bool true]).heap[wo.heap.size]? = some (.cells #[.int .i64 xi, .int .i64 be, .int .i64 en, .bool al, .slice a1 n1 c1, .slice a2 n2 c2, .bool inn, .bool true] 52) := by
             rw [Kc.block _ (by omega) (by omega), Kb.block _ (by rw [set_size13]; exact f8) hne1, heap_setCell_same _ _ _ _ _ _ f7]; rfl
            have r10 : (((u.setCell ⟨wo.heap.size, 7, none⟩ (.bool true)).setCell ⟨w3.heap.size, 6, none⟩ (.bool true)).setCells g (i * 8) [.int .i64 xi, .int .i64 be, .int .i64 en, .bool al, .slice a1 n1 c1, .slice a2 n2 c2, .bool inn, .bool true]).heap[w3.heap.size]? = some (.cells (cellsT1 (tJ false M t0 (i + 1)) m0).toArray 52) := by
             rw [Kc.block _ (by omega) (by omega), heap_setCell_same _ _ _ (cellsT1 (tJ false M t0 i) m0).toArray 52 _ ((Ka.block _ (by omega) hne2).trans f3), HTe.out, List.setIfInBounds_toArray]
             rfl
            have hq2 : (((u.setCell ⟨wo.heap.size, 7, none⟩ (.bool true)).setCell ⟨w3.heap.size, 6, none⟩ (.bool true)).setCells g (i * 8) [.int .i64 xi, .int .i64 be, .int .i64 en, .bool al, .slice a1 n1 c1, .slice a2 n2 c2, .bool inn, .bool true]).cell? ⟨wo.heap.size, 2, none⟩ = some (.int .i64 en) := by rw [cell_of_row _ _ _ _ _ _ r13]; rfl
            have hq7 : (((u.setCell ⟨wo.heap.size, 7, none⟩ (.bool true)).setCell ⟨w3.heap.size, 6, none⟩ (.bool true)).setCells g (i * 8) [.int .i64 xi, .int .i64 be, .int .i64 en, .bool al, .slice a1 n1 c1, .slice a2 n2 c2, .bool inn, .bool true]).cell? ⟨wo.heap.size, 6, none⟩ = some (.bool inn) := by rw [cell_of_row _ _ _ _ _ _ r13]; rfl
            have GG1 := hid (show (((u.setCell ⟨wo.heap.size, 7, none⟩ (.bool true)).setCell ⟨w3.heap.size, 6, none⟩ (.bool true)).setCells g (i * 8) [.int .i64 xi, .int .i64 be, .int .i64 en, .bool al, .slice a1 n1 c1, .slice a2 n2 c2, .bool inn, .bool true]).ownsRow w2.heap.size 52 8 (.slice (some ⟨g, 0, none⟩) n c3) n (cP (qJ false M ps (i + 1))) by rw [HQe.out, HPi.out]; exact oR3)
            have GG2 := hid (show BandsP (((u.setCell ⟨wo.heap.size, 7, none⟩ (.bool true)).setCell ⟨w3.heap.size, 6, none⟩ (.bool true)).setCells g (i * 8) [.int .i64 xi, .int .i64 be, .int .i64 en, .bool al, .slice a1 n1 c1, .slice a2 n2 c2, .bool inn, .bool true]) w2.heap.size hi1 (ps.set k (t0, m0)) by
             have o1 := f2.keep Ka (fun p hp b hb e => by have := (f2.own p hp).inr hb; omega)
             have hr10 : ∀ p ∈ ps.set k (t0, m0), ∀ b, blkT p.2 b → b ≠ w3.heap.size := fun p hp b hb e => by
              have := (f2.own p hp).inr hb
              exact HP10.out p hp b hb e
             have o2 := o1.keep Kb (fun p hp b hb e => hr10 p hp b hb e)
             exact o2.off oR2 Kc)
            have GG3 := hid r10
            have GG4 := hid (show BoxJ (((u.setCell ⟨wo.heap.size, 7, none⟩ (.bool true)).setCell ⟨w3.heap.size, 6, none⟩ (.bool true)).setCells g (i * 8) [.int .i64 xi, .int .i64 be, .int .i64 en, .bool al, .slice a1 n1 c1, .slice a2 n2 c2, .bool inn, .bool true]) w.heap.size KX NX FX (.slice ax m cx) from by
             have e := KK w.heap.size (by omega) (by omega) (by omega) (by omega)
             have q := f4
             exact ⟨(World.cell?_of_block (w := u) (a := ⟨w.heap.size, 0, none⟩) e).trans q.c0, (World.cell?_of_block (w := u) (a := ⟨w.heap.size, 1, none⟩) e).trans q.c1, (World.cell?_of_block (w := u) (a := ⟨w.heap.size, 2, none⟩) e).trans q.c2, (World.cell?_of_block (w := u) (a := ⟨w.heap.size, 3, none⟩) e).trans q.c3⟩)
            have GG5 := hid (show Below w.heap.size w (((u.setCell ⟨wo.heap.size, 7, none⟩ (.bool true)).setCell ⟨w3.heap.size, 6, none⟩ (.bool true)).setCells g (i * 8) [.int .i64 xi, .int .i64 be, .int .i64 en, .bool al, .slice a1 n1 c1, .slice a2 n2 c2, .bool inn, .bool true]) from Keeps.below ((f5.setCell (p := ⟨wo.heap.size, 7, none⟩) (by show w.heap.size ≤ wo.heap.size; omega) (.bool true)).setCell (p := ⟨w3.heap.size, 6, none⟩) (by show w.heap.size ≤ w3.heap.size; omega) (.bool true)) Kc (fun b hb => by subst hb; omega) (by omega))
            have GG6 : W.heap.size ≤ (((u.setCell ⟨wo.heap.size, 7, none⟩ (.bool true)).setCell ⟨w3.heap.size, 6, none⟩ (.bool true)).setCells g (i * 8) [.int .i64 xi, .int .i64 be, .int .i64 en, .bool al, .slice a1 n1 c1, .slice a2 n2 c2, .bool inn, .bool true]).heap.size := by omega
            have HTh := hid hth
            clear f1 f2 f3 f4 f5 f6 f7 f8 Ka Kb Kc KK oR2 oR3 hth ev r13 r10 hgw
            go_wp2_with (refine wpList_store_mid rfl 52 (.tmp 84) (.tmp 83) rfl g (i * 8) #[.int .i64 xi, .int .i64 be, .int .i64 en, .bool al, .slice a1 n1 c1, .slice a2 n2 c2, .bool inn, .bool true] rfl rfl ?th ?si ?on (stopG ?_))
            case th => exact HTh.out
            case si => first | exact size_tk | simpa using size_tk
            case on => simp [Value.oneCell']
            unfold StopG
            try rw [show (#[.int .i64 xi, .int .i64 be, .int .i64 en, .bool al, .slice a1 n1 c1, .slice a2 n2 c2, .bool inn, .bool true] : Array Value).toList = [.int .i64 xi, .int .i64 be, .int .i64 en, .bool al, .slice a1 n1 c1, .slice a2 n2 c2, .bool inn, .bool true] from rfl]
            clear z0 z1 z2 z3 z4 z5 z6 z7 zf k7 kf
            generalize ((u.setCell ⟨wo.heap.size, 7, none⟩ (.bool true)).setCell ⟨w3.heap.size, 6, none⟩ (.bool true)).setCells g (i * 8) [.int .i64 xi, .int .i64 be, .int .i64 en, .bool al, .slice a1 n1 c1, .slice a2 n2 c2, .bool inn, .bool true] = u3 at *
            by_cases hen : 0 < en
            · cases inn with
              | true =>
               have HCe := hid (show cdJ false M ts (i + 1) = 2 by rw [HCs.out, decide_eq_true hen]; rfl)
               go_wp2_with fail
               go_roundw
               case rel => exact ⟨i + 1, by omega, by go_num, by rw [HCe.out], GG1, GG2, GG3, GG4, GG5, GG6⟩
               case measure => simp [intOf]; omega
              | false =>
               have HCe := hid (show cdJ false M ts (i + 1) = cdJ false M ts i by rw [HCs.out, Bool.and_false]; rfl)
               go_wp2_with fail
               go_roundw
               case rel => exact ⟨i + 1, by omega, by go_num, by rw [HCe.out], GG1, GG2, GG3, GG4, GG5, GG6⟩
               case measure => simp [intOf]; omega
            · have HCe := hid (show cdJ false M ts (i + 1) = cdJ false M ts i by rw [HCs.out, decide_eq_false hen]; rfl)
              go_wp2_with fail
              go_roundw
              case rel => exact ⟨i + 1, by omega, by go_num, by rw [HCe.out], GG1, GG2, GG3, GG4, GG5, GG6⟩
              case measure => simp [intOf]; omega
      · have hlt' : ¬ (i : Int) < (n : Int) := by omega
        obtain rfl : i = n := by omega
        have hps := HPS.out
        have hgw := HGL.out
        obtain ⟨tf, htf⟩ : ∃ tf, tJ false M t0 i = tf := ⟨_, rfl⟩
        have HES2 := hid (show writeS ts x ⟨KX, NX, FX, ZX⟩ = ((qJ false M ps i).set k (tf, m0)).map (·.1) by rw [HES.out, HL.out, List.map_set, qJ_map, hps.1, ← htf]; rfl)
        have HEC2 := hid (show writeC ts x ⟨KX, NX, FX, ZX⟩ = if (tf.inn && tf.out) = true then 2 else cdJ false M ts i by rw [HEC.out]; unfold lastC; rw [HL.out, htf])
        have hBf := qJ_last false M (by omega) i (by omega) HBP.out
        rw [htf] at hBf
        have ht10 := HT.out
        rw [htf] at ht10
        obtain ⟨xf, bf, ef, af, rf, wf, inf, ouf⟩ := tf
        obtain ⟨m0y, m0X, m0z, m0Y⟩ := m0
        obtain ⟨s1, s2, s3, s4, s5, s6, es1, es2⟩ := HM0s.out
        simp only at es1 es2
        subst es1 es2
        have z0 : wo.cell? ⟨w3.heap.size, 0, none⟩ = some (.int .i64 xf) := by rw [cell_of_row _ _ _ _ _ _ ht10]; rfl
        have z1 : wo.cell? ⟨w3.heap.size, 1, none⟩ = some (.int .i64 bf) := by rw [cell_of_row _ _ _ _ _ _ ht10]; rfl
        have z2 : wo.cell? ⟨w3.heap.size, 2, none⟩ = some (.int .i64 ef) := by rw [cell_of_row _ _ _ _ _ _ ht10]; rfl
        have z3 : wo.cell? ⟨w3.heap.size, 3, none⟩ = some (.bool af) := by rw [cell_of_row _ _ _ _ _ _ ht10]; rfl
        have z4 : wo.cell? ⟨w3.heap.size, 4, none⟩ = some (.slice s1 s2 s3) := by rw [cell_of_row _ _ _ _ _ _ ht10]; rfl
        have z5 : wo.cell? ⟨w3.heap.size, 5, none⟩ = some (.slice s4 s5 s6) := by rw [cell_of_row _ _ _ _ _ _ ht10]; rfl
        have z6 : wo.cell? ⟨w3.heap.size, 6, none⟩ = some (.bool inf) := by rw [cell_of_row _ _ _ _ _ _ ht10]; rfl
        have z7 : wo.cell? ⟨w3.heap.size, 7, none⟩ = some (.bool ouf) := by rw [cell_of_row _ _ _ _ _ _ ht10]; rfl
        have oF := owns_row8 HR.out (by rw [qJ_len]; exact hps.2) (i := k) (by have := HKN.out; have := HL.out; omega) (⟨xf, bf, ef, af, rf, wf, inf, ouf⟩, ⟨.slice s1 s2 s3, m0X, .slice s4 s5 s6, m0Y⟩)
        have hth := row_there HR.out (i := k) (by have := HKN.out; have := HL.out; omega)
        have Kc := Keeps.cells g [.int .i64 xf, .int .i64 bf, .int .i64 ef, .bool af, .slice s1 s2 s3, .slice s4 s5 s6, .bool inf, .bool ouf] (k * 8) wo
        have hOw := (hBf.off HR.out Kc).own_t (v := (.slice (some ⟨g, 0, none⟩) i c3)) (by rw [List.length_set, qJ_len, hps.2]; exact oF) (fun g' hg' => by
         obtain rfl : g = g' := by simpa [Value.ownBlock] using hg'
         omega)
        have HF := hid hOw.rd
        have HBF := hid (Keeps.below HB.out Kc (fun b hb => by subst hb; omega) HB.out.size)
        have k6 : (wo.setCells g (k * 8) [.int .i64 xf, .int .i64 bf, .int .i64 ef, .bool af, .slice s1 s2 s3, .slice s4 s5 s6, .bool inf, .bool ouf]).cell? ⟨w3.heap.size, 6, none⟩ = some (.bool inf) := (World.cell?_of_block (w := wo) (a := ⟨w3.heap.size, 6, none⟩) (Kc.block w3.heap.size (by omega) (by omega))).trans z6
        have k7 : (wo.setCells g (k * 8) [.int .i64 xf, .int .i64 bf, .int .i64 ef, .bool af, .slice s1 s2 s3, .slice s4 s5 s6, .bool inf, .bool ouf]).cell? ⟨w3.heap.size, 7, none⟩ = some (.bool ouf) := (World.cell?_of_block (w := wo) (a := ⟨w3.heap.size, 7, none⟩) (Kc.block w3.heap.size (by omega) (by omega))).trans z7
        have HTh := hid hth
        have HLs := hid (show (((qJ false M ps i).set k (⟨xf, bf, ef, af, rf, wf, inf, ouf⟩, ⟨.slice s1 s2 s3, m0X, .slice s4 s5 s6, m0Y⟩)).map (·.1)).length = i by rw [List.length_map, List.length_set, qJ_len]; exact hps.2)
        have hkz : (0 : Int) ≤ (k : Int) := by omega
        have hkl : (k : Int) < (i : Int) := by have := HKN.out; have := HL.out; omega
        generalize cdJ false M ts i = CD at *
        clear hOw Kc hth oF ht10 hBf htf hps
        go_wp2_with (refine wpList_store_mid rfl 52 (.tmp 95) (.tmp 94) rfl g (k * 8) #[.int .i64 xf, .int .i64 bf, .int .i64 ef, .bool af, .slice s1 s2 s3, .slice s4 s5 s6, .bool inf, .bool ouf] rfl rfl ?th ?si ?on (stopG ?_))
        case th => exact HTh.out
        case si => first | exact size_tk | simpa using size_tk
        case on => simp [Value.oneCell']
        unfold StopG
        try rw [show (#[.int .i64 xf, .int .i64 bf, .int .i64 ef, .bool af, .slice s1 s2 s3, .slice s4 s5 s6, .bool inf, .bool ouf] : Array Value).toList = [.int .i64 xf, .int .i64 bf, .int .i64 ef, .bool af, .slice s1 s2 s3, .slice s4 s5 s6, .bool inf, .bool ouf] from rfl]
        clear z0 z1 z2 z3 z4 z5 z6 z7
        generalize wo.setCells g (k * 8) [.int .i64 xf, .int .i64 bf, .int .i64 ef, .bool af, .slice s1 s2 s3, .slice s4 s5 s6, .bool inf, .bool ouf] = u3 at *
        cases inf with
        | true =>
         cases ouf with
         | true =>
          have HCe := hid (show writeC ts x ⟨KX, NX, FX, ZX⟩ = 2 by rw [HEC2.out]; rfl)
          go_wp2_with fail
          go_ret2
          refine ⟨?_, HBF.out⟩
          rw [HCe.out, HES2.out]
          exact ⟨_, c3, by rw [HLs.out]; rfl, HF.out⟩
         | false =>
          have HCe := hid (show writeC ts x ⟨KX, NX, FX, ZX⟩ = CD by rw [HEC2.out]; rfl)
          go_wp2_with fail
          go_ret2
          refine ⟨?_, HBF.out⟩
          rw [HCe.out, HES2.out]
          exact ⟨_, c3, by rw [HLs.out]; rfl, HF.out⟩
        | false =>
         have HCe := hid (show writeC ts x ⟨KX, NX, FX, ZX⟩ = CD by rw [HEC2.out]; rfl)
         go_wp2_with fail
         go_ret2
         refine ⟨?_, HBF.out⟩
         rw [HCe.out, HES2.out]
         exact ⟨_, c3, by rw [HLs.out]; rfl, HF.out⟩
    | false =>
     have HRT2 := hid (wrT_new' (t := ⟨xk, bk, ek, ak, rk, wk, ik, ok⟩) (x := ⟨KX, NX, FX, ZX⟩) hh)
     have HWk := hid (show wrOk ts k ⟨KX, NX, FX, ZX⟩ = decide (l2 + 1 ≤ 200) by unfold wrOk; rw [HTK.out, HRT2.out]; simp only [List.length_append, List.length_singleton, HL12.out.2])
     clear hh
     have bD := (Below.refl W.heap.size W).drew
     have HS0 := hid (show (fun V => V.cell? ⟨w3.heap.size, 5, none⟩ = some (.slice u2 l2 e2) ∧ BoxJ V w.heap.size KX NX FX (.slice ax m cx)) W.drew from ⟨by rw [show W.drew.cell? ⟨w3.heap.size, 5, none⟩ = W.cell? ⟨w3.heap.size, 5, none⟩ from rfl, cell_of_row _ _ _ _ _ _ HT4.out]; rfl, HX4.out.below bD (Nat.le_refl _)⟩)
     have HB0 := hid (HB4.out.trans (bD.mono (by have := HB4.out.size; omega)))
     have HT0 := hid (show W.drew.heap[w3.heap.size]? = some (.cells #[.int .i64 xk, .int .i64 bk, .int .i64 ek, .bool ak, .slice u1 l1 e1, .slice u2 l2 e2, .bool ik, .bool ok] 52) from HT4.out)
     have HR0 := hid (owns_below bD (Nat.le_refl _) HR4.out)
     have HBP0 := hid (HBP4.out.keep (Keeps.of_below (X := fun _ => False) bD) (fun _ _ _ _ x => x.elim))
     have HZ0 := hid (show w3.heap.size + 1 ≤ W.drew.heap.size from HZ4.out)
     go_wp2
     clear bD HR4 HBP4 HT4 HX4 HB4 HZ4
     refine region_K 7 (fun V => V.cell? ⟨w3.heap.size, 5, none⟩ = some (.slice u2 l2 e2) ∧ BoxJ V w.heap.size KX NX FX (.slice ax m cx)) (by kernel_rfl) ?_ (fun hHeld => ?_)
     · exact HS0.out
     generalize W.drew = v0 at *
     clear W
     refine anyK_take (i := 0) (v := ?v0_1) rfl (by kernel_rfl) (by kernel_rfl) (by kernel_rfl) (by kernel_rfl) (fun _ _ _ h => h) (by rfl) hHeld ?hy0_1 (some 40) (by rfl) ?rest0_1
     case hy0_1 => (intro W hSw; obtain ⟨x0, x1, x2, x3, x4⟩ := hSw; go_simp; (try with_reducible rfl))
     try simp only [Act.put, List.setIfInBounds_toArray, List.set_cons_succ, List.set_cons_zero]
     refine anyK_take (i := 1) (v := ?v1_2) rfl (by kernel_rfl) (by kernel_rfl) (by kernel_rfl) (by kernel_rfl) (fun _ _ _ h => h) (by rfl) hHeld ?hy1_2 (some 41) (by rfl) ?rest1_2
     case hy1_2 => (intro W hSw; obtain ⟨x0, x1, x2, x3, x4⟩ := hSw; go_simp; (try with_reducible rfl))
     try simp only [Act.put, List.setIfInBounds_toArray, List.set_cons_succ, List.set_cons_zero]
     refine anyK_take (i := 2) (v := ?v2_3) rfl (by kernel_rfl) (by kernel_rfl) (by kernel_rfl) (by kernel_rfl) (fun _ _ _ h => h) (by rfl) hHeld ?hy2_3 (some 42) (by rfl) ?rest2_3
     case hy2_3 => (intro W hSw; obtain ⟨x0, x1, x2, x3, x4⟩ := hSw; go_simp; (try with_reducible rfl))
     try simp only [Act.put, List.setIfInBounds_toArray, List.set_cons_succ, List.set_cons_zero]
     refine anyK_step (i := 3) (by kernel_rfl) rfl (fun KP hK => ?_)
     go_simp
     refine (spec_l3copy KX NX FX cx hnl (HQ.out.below HB0.out (Nat.le_refl _)) hzx).mono ?_
     rintro e v1 ⟨v, rfl, o1, b1⟩
     obtain ⟨pv, cv, rfl⟩ := own_sl o1
     have HS1 := hid (show (fun V => V.cell? ⟨w3.heap.size, 5, none⟩ = some (.slice u2 l2 e2) ∧ BoxJ V w.heap.size KX NX FX (.slice ax m cx)) v1 from ⟨(b1.cell (p := ⟨w3.heap.size, 5, none⟩) (World.block_lt_of_cell? _ _ HS0.out.1)).trans HS0.out.1, HS0.out.2.below b1 (Nat.le_refl _)⟩)
     have HB1 := hid (HB0.out.trans (b1.mono (by have := HB0.out.size; omega)))
     have HT1 := hid ((b1.block w3.heap.size (by have := HZ0.out; omega)).trans HT0.out)
     have HR1 := hid (owns_below b1 (Nat.le_refl _) HR0.out)
     have HBP1 := hid (HBP0.out.keep (Keeps.of_below (X := fun _ => False) b1) (fun _ _ _ _ x => x.elim))
     have HBd := hid (show Bands v1 v0.heap.size v1.heap.size [.slice pv m cv] [ZX] from Bands.one (by rw [HQ.out.len]; exact o1) HQ.out.bd (Nat.le_refl _))
     have HZ1 := hid (And.intro HZ0.out b1.size)
     clear o1 b1 HS0 HB0 HT0 HR0 HBP0
     go_wp2_with fail
     clear hHeld
     refine hK.out _ _ HS1.out (fun hHeld => ?_)
     clear hK KP
     try simp only [Act.put]
     try simp only [List.setIfInBounds_toArray]
     try simp only [List.set_cons_succ, List.set_cons_zero]
     refine anyK_step (i := 4) (by kernel_rfl) rfl (fun KP hK => ?_)
     go_simp
     have b2 := Below.alloc1 v1 (.cells #[.int .i64 KX, .int .i64 NX, .float .f64 FX, .slice pv m cv] 33)
     have HS2 := hid (show (fun V => V.cell? ⟨w3.heap.size, 5, none⟩ = some (.slice u2 l2 e2) ∧ BoxJ V w.heap.size KX NX FX (.slice ax m cx)) (v1.alloc (.cells #[.int .i64 KX, .int .i64 NX, .float .f64 FX, .slice pv m cv] 33)) from ⟨(b2.cell (p := ⟨w3.heap.size, 5, none⟩) (World.block_lt_of_cell? _ _ HS1.out.1)).trans HS1.out.1, HS1.out.2.below b2 (Nat.le_refl _)⟩)
     have HB5 := hid (HB1.out.trans (b2.mono (by have := HB1.out.size; omega)))
     have HT5 := hid ((b2.block w3.heap.size (by have := HZ1.out; omega)).trans HT1.out)
     have HR5 := hid (owns_below b2 (Nat.le_refl _) HR1.out)
     have HBP5 := hid (HBP1.out.keep (Keeps.of_below (X := fun _ => False) b2) (fun _ _ _ _ x => x.elim))
     have HBd2 := hid (HBd.out.agree (Agree.below b2 (Nat.le_refl _)))
     have HNw := hid (heap_alloc_new v1 (.cells #[.int .i64 KX, .int .i64 NX, .float .f64 FX, .slice pv m cv] 33))
     have HZ5 := hid (show w3.heap.size + 1 ≤ v0.heap.size ∧ v0.heap.size ≤ v1.heap.size ∧ (v1.alloc (.cells #[.int .i64 KX, .int .i64 NX, .float .f64 FX, .slice pv m cv] 33)).heap.size = v1.heap.size + 1 from ⟨HZ1.out.1, HZ1.out.2, alloc_size _ _⟩)
     clear b2 hHeld
     refine hK.out _ _ HS2.out (fun hHeld => ?_)
     clear hK KP
     try simp only [Act.put]
     try simp only [List.setIfInBounds_toArray]
     try simp only [List.set_cons_succ, List.set_cons_zero]
     obtain ⟨w5, hw5⟩ : ∃ w5, v1.alloc (.cells #[.int .i64 KX, .int .i64 NX, .float .f64 FX, .slice pv m cv] 33) = w5 := ⟨_, rfl⟩
     rw [hw5] at HS2 HB5 HT5 HR5 HBP5 HBd2 HNw HZ5 hHeld ⊢
     clear hw5 HS1 HB1 HT1 HR1 HBP1 HBd HZ1
     have hown0 := HBP5.out.own _ (List.getElem_mem hkp)
     rw [HPk.out] at hown0
     have hrd := hown0.wr
     simp only [HL12.out.2] at hrd
     have HRow := hid hrd.row
     obtain ⟨i0, hi0, hz0, hz1', hz2'⟩ := info_parts Tryz.infoIm
     refine anyK_step (i := 5) (by kernel_rfl) rfl (fun KP hK => ?_)
     refine step_append_at rfl _ _ 50 rfl w2.heap.size 33 i0 (.agg #[.int .i64 0, .int .i64 0, .float .f64 0, .slice none 0 0]) 4 48 Tryz.underlying50 hi0 hz0 hz1' hz2' rfl (by decide) _ l2 _ rfl HRow.out ⟨v1.heap.size, 0, none⟩ 1 1 [.int .i64 KX, .int .i64 NX, .float .f64 FX, .slice pv m cv] rfl rfl (World.news_of_block HNw.out) ?g2 (by have := HTr.out.2.1; unfold maxLen; omega) (by have := HTr.out.2.1; omega) (by have := HZ5.out; omega) ?_
     case g2 => intro u hu; simp only [List.mem_cons, List.not_mem_nil, or_false] at hu; rcases hu with rfl | rfl | rfl | rfl <;> rfl
     intro a8 c8 w8 o8 g8 hat8
     have hzz := HZ5.out
     have hX8 := OwnX.push hrd (by omega) (by omega) (by decide) (fs := [⟨KX, NX, FX, ZX⟩]) (ys := [.slice pv m cv]) (HBd2.out.mono (by omega) (by omega)) rfl (fun i => by
      cases i with
      | zero => exact hfx
      | succ i => simp [im0]) o8 g8
     have K8 : Keeps (fun b => (Value.slice u2 l2 e2).ownBlock = some b) w5 w8 := Keeps.grown g8 (fun b e => e)
     have hyb : ∀ b, (Value.slice u2 l2 e2).ownBlock = some b → blkT ps[k].2 b := fun b hb => by rw [HPk.out]; exact .inr (.inl hb)
     have hyr : ∀ b, (Value.slice u2 l2 e2).ownBlock = some b → w2.heap.size ≤ b ∧ b < w3.heap.size := fun b hb => hown0.inr (.inr (.inl hb))
     have hT8 : OwnT1 w8 w2.heap.size w8.heap.size ⟨.slice u1 l1 e1, mX, .slice a8 (l2 + 1) c8, mY ++ [.slice pv m cv]⟩ ⟨xk, bk, ek, ak, rk, wk ++ [⟨KX, NX, FX, ZX⟩], ik, ok⟩ := by
      refine ⟨?_, ?_, fun b hb hc => ?_⟩
      · exact (hown0.rd.keep K8 (fun b hb hx => hown0.rw_apart hb (.inl hx))).mono (Nat.le_refl _) (by have := g8.size; omega)
      · simp only [List.length_append, List.length_singleton, HL12.out.2]
        exact hX8
      · obtain ⟨x, hx, hxb⟩ := hc
        rcases List.mem_append.1 hx with q | q
        · exact hown0.apart b hb ⟨x, q, hxb⟩
        · have h1 := blkL_ge HBd2.out ⟨x, q, hxb⟩
          have h2 := hown0.rd.inr (.inr hb)
          omega
     have hB8 := HBP5.out.repl hkp (hi1 := w8.heap.size) (by have := g8.size; omega) K8 (fun b hb => .inl (hyb b hb)) (p' := (⟨xk, bk, ek, ak, rk, wk ++ [⟨KX, NX, FX, ZX⟩], ik, ok⟩, ⟨.slice u1 l1 e1, mX, .slice a8 (l2 + 1) c8, mY ++ [.slice pv m cv]⟩)) hT8 (fun b hb => by
      rw [HPk.out]
      rcases hb with q | (q | ⟨x, hx, hxb⟩)
      · exact .inl (.inl q)
      · rcases hat8 with e | e
        · rw [e] at q; exact .inl (.inr (.inl q))
        · rw [e] at q
          obtain rfl : w5.heap.size = b := by simpa using q
          exact .inr (by omega)
      · rcases List.mem_append.1 hx with q | q
        · exact .inl (.inr (.inr ⟨x, q, hxb⟩))
        · have h1 := blkL_ge HBd2.out ⟨x, q, hxb⟩
          exact .inr (by omega))
     have hP8 : ∀ p ∈ ps.set k (⟨xk, bk, ek, ak, rk, wk ++ [⟨KX, NX, FX, ZX⟩], ik, ok⟩, ⟨.slice u1 l1 e1, mX, .slice a8 (l2 + 1) c8, mY ++ [.slice pv m cv]⟩), ∀ b, blkT p.2 b → b = w3.heap.size → False := fun p hp b hb e => by
      rcases List.mem_or_eq_of_mem_set hp with q | rfl
      · have := (HBP5.out.own p q).inr hb
        omega
      · rcases hb with q | (q | ⟨x, hx, hxb⟩)
        · have := hown0.inr (.inl q); omega
        · rcases hat8 with e' | e'
          · rw [e'] at q; have := hyr b q; omega
          · rw [e'] at q
            obtain rfl : w5.heap.size = b := by simpa using q
            omega
        · rcases List.mem_append.1 hx with q | q
          · have := hown0.inr (.inr (.inr ⟨x, q, hxb⟩)); omega
          · have h1 := blkL_ge HBd2.out ⟨x, q, hxb⟩
            omega
     have hgy : ∀ b, (Value.slice u2 l2 e2).ownBlock = some b → ¬ b = g := fun b hb e => by
      subst e
      exact hown0.off HR5.out (by decide) (by decide) (by decide) (.inr (.inl hb)) rfl
     have oR8 := owns_keep HR5.out K8 (fun b hb hx => hgy b hx (by
      obtain rfl : g = b := by simpa [Value.ownBlock] using hb
      rfl))
     have hT8r := (K8.block w3.heap.size (by omega) (fun q => by have := hyr _ q; omega)).trans HT5.out
     have hX8w : BoxJ w8 w.heap.size KX NX FX (.slice ax m cx) := by
      have e := K8.block w.heap.size (by omega) (fun q => by have := hyr _ q; omega)
      have q := HS2.out.2
      exact ⟨(World.cell?_of_block (w := w5) (a := ⟨w.heap.size, 0, none⟩) e).trans q.c0, (World.cell?_of_block (w := w5) (a := ⟨w.heap.size, 1, none⟩) e).trans q.c1, (World.cell?_of_block (w := w5) (a := ⟨w.heap.size, 2, none⟩) e).trans q.c2, (World.cell?_of_block (w := w5) (a := ⟨w.heap.size, 3, none⟩) e).trans q.c3⟩
     have HB8 := hid (Keeps.below HB5.out K8 (fun b hb => by have := hyr b hb; omega) (by have := HB5.out.size; omega))
     have HS8 := hid (show (fun V => V.cell? ⟨w3.heap.size, 5, none⟩ = some (.slice u2 l2 e2) ∧ BoxJ V w.heap.size KX NX FX (.slice ax m cx)) w8 from ⟨by rw [cell_of_row _ _ _ _ _ _ hT8r]; rfl, hX8w⟩)
     have HFr := hid (show w8.frozen? ⟨w3.heap.size, 5, none⟩ = false from frozen_of_row _ _ _ _ _ hT8r)
     have HBP8 := hid hB8
     have HP8 := hid hP8
     have HR8 := hid oR8
     have HT8 := hid hT8r
     have HX8 := hid hX8w
     have hz8 : w5.heap.size ≤ w8.heap.size := g8.size
     have hz5 : w3.heap.size + 2 ≤ w5.heap.size := by omega
     clear hzz hX8 K8 hyb hyr hT8 hB8 hP8 hgy oR8 hT8r hX8w o8 g8 hat8 hown0 hrd HRow hHeld
     refine hK.out _ _ HS8.out (fun hHeld => ?_)
     clear hK KP
     try simp only [Act.put]
     try simp only [List.setIfInBounds_toArray]
     try simp only [List.set_cons_succ, List.set_cons_zero]
     refine anyK_step (i := 6) (by kernel_rfl) rfl (fun KP hK => ?_)
     go_simp
     clear hHeld
     refine hK.out _ _ HS8.out (fun hHeld => ?_)
     clear hK KP
     try simp only [Act.put]
     try simp only [List.setIfInBounds_toArray]
     try simp only [List.set_cons_succ, List.set_cons_zero]
     have kc := HS8.out.1
     have kf := HFr.out
     refine anyK_last (by kernel_rfl) rfl (fun KP hK => ?_)
     go_simp
     refine hK.out _ _ ?_
     clear hK KP hHeld kc kf
     try simp only [Act.put]
     refine anyK_done (by kernel_rfl) ?_ _
     have K9 := Keeps.set (X := fun b => b = w3.heap.size) w8 (p := ⟨w3.heap.size, 5, none⟩) rfl (.slice a8 (l2 + 1) c8)
     have z9 := set_size13 w8 ⟨w3.heap.size, 5, none⟩ (.slice a8 (l2 + 1) c8)
     have r9 : (w8.setCell ⟨w3.heap.size, 5, none⟩ (.slice a8 (l2 + 1) c8)).heap[w3.heap.size]? = some (.cells #[.int .i64 xk, .int .i64 bk, .int .i64 ek, .bool ak, .slice u1 l1 e1, .slice a8 (l2 + 1) c8, .bool ik, .bool ok] 52) := by rw [heap_setCell_same _ _ _ _ _ _ HT8.out]; rfl
     have k5 : (w8.setCell ⟨w3.heap.size, 5, none⟩ (.slice a8 (l2 + 1) c8)).cell? ⟨w3.heap.size, 5, none⟩ = some (.slice a8 (l2 + 1) c8) := by rw [cell_of_row _ _ _ _ _ _ r9]; rfl
     have HR9 := hid (owns_keep HR8.out K9 (fun b hb e => by
      obtain rfl : g = b := by simpa [Value.ownBlock] using hb
      omega))
     have HBP9 := hid (HBP8.out.keep K9 (fun p hp b hb e => HP8.out p hp b hb e))
     have HX9 := hid (show BoxJ (w8.setCell ⟨w3.heap.size, 5, none⟩ (.slice a8 (l2 + 1) c8)) w.heap.size KX NX FX (.slice ax m cx) by
      have e := K9.block w.heap.size (by omega) (by omega)
      have q := HX8.out
      exact ⟨(World.cell?_of_block (w := w8) (a := ⟨w.heap.size, 0, none⟩) e).trans q.c0, (World.cell?_of_block (w := w8) (a := ⟨w.heap.size, 1, none⟩) e).trans q.c1, (World.cell?_of_block (w := w8) (a := ⟨w.heap.size, 2, none⟩) e).trans q.c2, (World.cell?_of_block (w := w8) (a := ⟨w.heap.size, 3, none⟩) e).trans q.c3⟩)
     have HB9 := hid (HB8.out.setCell (p := ⟨w3.heap.size, 5, none⟩) (by show w.heap.size ≤ w3.heap.size; omega) (.slice a8 (l2 + 1) c8))
     have HT9 := hid r9
     clear K9 r9 HS8 HS2 HB5 HT5 HR5 HBP5 HBd2 HZ5 HNw HR8 HBP8 HX8 HB8 HT8 HFr
     obtain ⟨W, hW⟩ : ∃ W, w8.setCell ⟨w3.heap.size, 5, none⟩ (.slice a8 (l2 + 1) c8) = W := ⟨_, rfl⟩
     rw [hW] at HR9 HBP9 HX9 HB9 HT9 z9 k5
     try rw [hW]
     clear hW
     by_cases h6 : 200 < l2 + 1
     · have h6' : (200 : Int) < (l2 : Int) + 1 := by omega
       have hwf : wrOk ts k ⟨KX, NX, FX, ZX⟩ = false := by rw [HWk.out]; exact decide_eq_false (by omega)
       have HE1 := hid (show writeS ts x ⟨KX, NX, FX, ZX⟩ = [] by rw [HE.out.1, hwf]; rfl)
       have HE2 := hid (show writeC ts x ⟨KX, NX, FX, ZX⟩ = 1 by rw [HE.out.2, hwf]; rfl)
       clear hwf
       go_wp2_with fail
       go_ret2
       refine ⟨?_, HB9.out⟩
       rw [HE1.out, HE2.out]
       exact ⟨none, 0, rfl, ReadsT.nil _ _⟩
     have h6' : ¬ (200 : Int) < (l2 : Int) + 1 := by omega
     have hwt : wrOk ts k ⟨KX, NX, FX, ZX⟩ = true := by rw [HWk.out]; exact decide_eq_true (by omega)
     have HES := hid (show writeS ts x ⟨KX, NX, FX, ZX⟩ = pJ false M ts k ⟨xk, bk, ek, ak, rk, wk ++ [⟨KX, NX, FX, ZX⟩], ik, ok⟩ ts.length by rw [HE.out.1, hwt, HTK.out, HRT2.out]; rfl)
     have HEC := hid (show writeC ts x ⟨KX, NX, FX, ZX⟩ = lastC false M ts ⟨xk, bk, ek, ak, rk, wk ++ [⟨KX, NX, FX, ZX⟩], ik, ok⟩ by rw [HE.out.2, hwt, HTK.out, HRT2.out]; rfl)
     clear hwt
     go_wp2_with fail
     clear k5
     obtain ⟨t0, ht0⟩ : ∃ t0 : Tk, ⟨xk, bk, ek, ak, rk, wk ++ [⟨KX, NX, FX, ZX⟩], ik, ok⟩ = t0 := ⟨_, rfl⟩
     obtain ⟨m0, hm0⟩ : ∃ m0 : Mt, ⟨.slice u1 l1 e1, mX, .slice a8 (l2 + 1) c8, mY ++ [.slice pv m cv]⟩ = m0 := ⟨_, rfl⟩
     have HM0s := hid (show ∃ s1 s2 s3 s4 s5 s6, m0.y = .slice s1 s2 s3 ∧ m0.z = .slice s4 s5 s6 by rw [← hm0]; exact ⟨_, _, _, _, _, _, rfl, rfl⟩)
     have HM0 := hid (show t0.rs = (ts.getD k tk0).rs ∧ m0.y = (ps.getD k pm0).2.y by rw [HTK.out, HMK.out, ← ht0, ← hm0]; exact ⟨rfl, rfl⟩)
     have HT := hid (show W.heap[w3.heap.size]? = some (.cells (cellsT1 t0 m0).toArray 52) by rw [← ht0, ← hm0]; exact HT9.out)
     have HR := HR9
     have HX := HX9
     have HB := HB9
     rw [ht0, hm0] at HBP9 HP8
     rw [ht0] at HES HEC
     have HBP := HBP9
     have HP10 := HP8
     obtain ⟨hi1, hhi1⟩ : ∃ hi1, w8.heap.size = hi1 := ⟨_, rfl⟩
     rw [hhi1] at HBP
     have hS4 : hi1 ≤ W.heap.size := by omega
     have hS5 : w3.heap.size ≤ hi1 := by omega
     have hS3 : w3.heap.size < W.heap.size := by omega
     clear hhi1 ht0 hm0 HRT2 HR9 HBP9 HT9 HX9 HB9 HOwn HoR HoB HPk HP8
     have hp10 : w3.heap.size < W.heap.size := by omega
     go_loopw [11, 12] (fun vc vi wr => ∃ i : Nat, i ≤ n ∧ vi = .int .i64 i ∧ vc = .int .i64 (cdJ false M ts i) ∧ Hid (wr.ownsRow w2.heap.size 52 8 (.slice (some ⟨g, 0, none⟩) n c3) n (cP (qJ false M ps i))) ∧ Hid (BandsP wr w2.heap.size hi1 (ps.set k (t0, m0))) ∧ Hid (wr.heap[w3.heap.size]? = some (.cells (cellsT1 (tJ false M t0 i) m0).toArray 52)) ∧ Hid (BoxJ wr w.heap.size KX NX FX (.slice ax m cx)) ∧ Hid (Below w.heap.size w wr) ∧ W.heap.size ≤ wr.heap.size) (fun _ vi _ => n - (intOf vi).toNat)
     case atStart => exact ⟨0, Nat.zero_le _, rfl, rfl, HR, HBP, by rw [show tJ false M t0 0 = t0 from rfl]; exact HT, HX, HB, Nat.le_refl _⟩
     case round =>
      obtain ⟨i, hin, rfl, rfl, HR, HBP, HT, HX, HB, hsw⟩ := hrel
      obtain ⟨wo, hwo⟩ : ∃ wo, wo = wr := ⟨_, rfl⟩
      subst hwo
      have hqn : (qJ false M ps i).length = n := by rw [qJ_len]; exact HPS.out.2
      by_cases hlt : i < n
      · have hlt' : (i : Int) < (n : Int) := by omega
        have hi0 : (0 : Int) ≤ (i : Int) := by omega
        have hbx := row_box HR.out hqn hlt
        rw [qJ_at false M ps i (by have := HPS.out; omega) i (Nat.le_refl _)] at hbx
        obtain ⟨a1, c1, a2, c2, ey, ez, hp1⟩ := HSLs.out i hlt
        rw [ey, ez, hp1] at hbx
        have hrdW : ReadsM wo a1 (fl2 (ts.getD i tk0).rs) := by
         have hj : i < (ps.set k (t0, m0)).length := by rw [List.length_set]; have := HPS.out; omega
         have ho := HBP.out.own _ (List.getElem_mem hj)
         rw [List.getElem_set] at ho
         by_cases c : k = i
         · rw [if_pos c] at ho
           have h1 := ho.rd
           rw [HM0.out.1, HM0.out.2, c] at h1
           rw [ey] at h1
           exact h1.rd
         · rw [if_neg c] at ho
           have h1 := ho.rd
           have e : ps[i]'(by rw [List.length_set] at hj; exact hj) = ps.getD i pm0 := by simp [List.getD, show i < ps.length by have := HPS.out; omega]
           rw [e, ey, hp1] at h1
           exact h1.rd
        have hsmi := (HSM.out i).1
        have hlni := (HLN.out i).1
        have HDg := hid (show dng false (ts.getD i tk0) = (decide (0 < (ts.getD i tk0).ended) && (ts.getD i tk0).inn) by
         have := (track_small (HOK.out i (by have := HL.out; omega))).2.2.2
         unfold dng
         congr 1
         rw [Bool.eq_iff_iff, decide_eq_true_iff, decide_eq_true_iff]
         omega)
        have HMi := hid (show M i = (!(decide (i = k)) && (concB (ts.getD k tk0) (ts.getD i tk0) && hitR ⟨KX, NX, FX, ZX⟩ (ts.getD i tk0))) from (HM.out i).symm)
        have HCs := hid (cdJ_succ false M ts i)
        have HPi := hid (show ps.getD i pm0 = (ts.getD i tk0, (ps.getD i pm0).2) by rw [← hp1])
        have HMy := hid (And.intro ey ez)
        obtain ⟨ti, hti⟩ : ∃ ti, ts.getD i tk0 = ti := ⟨_, rfl⟩
        rw [hti] at hbx hrdW hsmi hlni HDg HMi HCs HPi HMy
        clear hti ey ez hp1
        obtain ⟨xi, be, en, al, rs, ws, inn, ou⟩ := ti
        obtain ⟨y0, y1, y2, y3, y4, y5, y6, y7⟩ := hbx
        simp only at y0 y1 y2 y3 y4 y5 y6 y7 hrdW hsmi hlni HDg HMy
        obtain ⟨n1, hn1⟩ : ∃ n1, rs.length = n1 := ⟨_, rfl⟩
        obtain ⟨n2, hn2⟩ : ∃ n2, ws.length = n2 := ⟨_, rfl⟩
        rw [hn1] at y4 hlni HMy
        rw [hn2] at y5 HMy
        have HN1 := hid hn1
        have bA := Below.alloc1 wo (.cells #[.int .i64 xi, .int .i64 be, .int .i64 en, .bool al, .slice a1 n1 c1, .slice a2 n2 c2, .bool inn, .bool ou] 52)
        have HRA := hid (heap_alloc_new wo (.cells #[.int .i64 xi, .int .i64 be, .int .i64 en, .bool al, .slice a1 n1 c1, .slice a2 n2 c2, .bool inn, .bool ou] 52))
        have HZA := hid (alloc_size wo (.cells #[.int .i64 xi, .int .i64 be, .int .i64 en, .bool al, .slice a1 n1 c1, .slice a2 n2 c2, .bool inn, .bool ou] 52))
        have HAW := hid bA
        have HRW := hid (hrdW.below bA (Nat.le_refl _))
        have HXA := hid (HX.out.below bA (Nat.le_refl _))
        have HBA := hid (HB.out.trans (bA.mono HB.out.size))
        have HSm := hid hsmi
        clear bA hrdW hn1 hn2 hsmi hqn
        go_wp2
        clear y0 y1 y2 y3 y4 y5 y6 y7
        obtain ⟨wA, hwA⟩ : ∃ wA, wo.alloc (.cells #[.int .i64 xi, .int .i64 be, .int .i64 en, .bool al, .slice a1 n1 c1, .slice a2 n2 c2, .bool inn, .bool ou] 52) = wA := ⟨_, rfl⟩
        rw [hwA] at HRA HZA HAW HRW HXA HBA
        try rw [hwA]
        clear hwA
        obtain ⟨bl, ofl, v1, f1, v2, f2, el, bxl, _, _, _, _⟩ := (HRT.out.below HBA.out (Nat.le_refl _)).at (k := k) HKN.out
        rw [HTK.out] at bxl
        rw [HTK.out] at HMi
        obtain ⟨h1, hh1⟩ : ∃ h1, (⟨xk, bk, ek, ak, rk, wk, ik, ok⟩ : Tk).rs.length = h1 := ⟨_, rfl⟩
        obtain ⟨h2, hh2⟩ : ∃ h2, (⟨xk, bk, ek, ak, rk, wk, ik, ok⟩ : Tk).ws.length = h2 := ⟨_, rfl⟩
        rw [hh1, hh2] at bxl
        subst el
        have bD := (Below.refl wA.heap.size wA).drew
        have HS0 := hid (show (fun V => Box8 V bl (ofl + k * 8) ⟨xk, bk, ek, ak, rk, wk, ik, ok⟩ (.slice v1 h1 f1) (.slice v2 h2 f2) ∧ BoxK V wo.heap.size xi be en al (.slice a1 n1 c1) (.slice a2 n2 c2) inn ou ∧ BoxJ V w.heap.size KX NX FX (.slice ax m cx)) wA.drew from ⟨bxl.below bD (Nat.le_refl _), (BoxK.row HRA.out).below bD (Nat.le_refl _), HXA.out.below bD (Nat.le_refl _)⟩)
        have HID := hid bD
        have HBD := hid (HBA.out.trans (bD.mono HBA.out.size))
        have HRD := hid (HRW.out.below bD (Nat.le_refl _))
        obtain ⟨CB, hCB⟩ : ∃ CB, concB ⟨xk, bk, ek, ak, rk, wk, ik, ok⟩ ⟨xi, be, en, al, rs, ws, inn, ou⟩ = CB := ⟨_, rfl⟩
        obtain ⟨HH, hHH⟩ : ∃ HH, hitR ⟨KX, NX, FX, ZX⟩ ⟨xi, be, en, al, rs, ws, inn, ou⟩ = HH := ⟨_, rfl⟩
        rw [hCB, hHH] at HMi
        have HCB := hid hCB
        have HHH := hid (show readsB ⟨xi, be, en, al, rs, ws, inn, ou⟩ ⟨KX, NX, FX, ZX⟩ = HH from hHH)
        clear bxl bD hCB hHH hh1 hh2
        have after : ∀ u, Below wA.heap.size wA u → Hid (u.ownsRow w2.heap.size 52 8 (.slice (some ⟨g, 0, none⟩) n c3) n (cP (qJ false M ps i)) ∧ BandsP u w2.heap.size hi1 (ps.set k (t0, m0)) ∧ u.heap[w3.heap.size]? = some (.cells (cellsT1 (tJ false M t0 i) m0).toArray 52) ∧ BoxJ u w.heap.size KX NX FX (.slice ax m cx) ∧ Below w.heap.size w u ∧ W.heap.size ≤ u.heap.size ∧ u.heap[wo.heap.size]? = some (.cells #[.int .i64 xi, .int .i64 be, .int .i64 en, .bool al, .slice a1 n1 c1, .slice a2 n2 c2, .bool inn, .bool ou] 52) ∧ wo.heap.size < u.heap.size) := fun u bu => hid (by
         have bb := HAW.out.trans (bu.mono HAW.out.size)
         exact ⟨owns_below bb (Nat.le_refl _) HR.out, HBP.out.keep (Keeps.of_below (X := fun _ => False) bb) (fun _ _ _ _ x => x.elim), (bb.block _ (by omega)).trans HT.out, HX.out.below bb (Nat.le_refl _), HB.out.trans (bb.mono HB.out.size), by have := bb.size; omega, (bu.block _ (by have := HZA.out; omega)).trans HRA.out, by have := bu.size; have := HZA.out; omega⟩)
        have HAf := hid after
        clear after
        by_cases hik : i = k
        · have hq : ((i : Int) == (k : Int)) = true := by simpa using (show (i : Int) = (k : Int) by omega)
          have hMf : M i = false := by rw [HMi.out, decide_eq_true hik]; rfl
          have HQe := hid (qJ_no false M ps hMf)
          have HTe := hid (show tJ false M t0 (i + 1) = tJ false M t0 i by rw [tJ_succ, hMf]; rfl)
          have HCe := hid (show cdJ false M ts (i + 1) = cdJ false M ts i by rw [cdJ_succ, hMf]; rfl)
          clear hik hMf
          refine region_K 99 (fun V => Box8 V bl (ofl + k * 8) ⟨xk, bk, ek, ak, rk, wk, ik, ok⟩ (.slice v1 h1 f1) (.slice v2 h2 f2) ∧ BoxK V wo.heap.size xi be en al (.slice a1 n1 c1) (.slice a2 n2 c2) inn ou ∧ BoxJ V w.heap.size KX NX FX (.slice ax m cx)) (by kernel_rfl) ?_ (fun hHeld => ?_)
          · exact HS0.out
          generalize wA.drew = vD at *
          refine anyK_take2 (i := 0) (v := ?v0_33) rfl (by kernel_rfl) (by kernel_rfl) (by kernel_rfl) (by rfl) (fun _ _ _ h => h) (by rfl) hHeld ?hy0_33 (some 61) (by rfl) ?rest0_33
          case hy0_33 => (intro W hSw; obtain ⟨⟨x0, x1, x2, x3, x4, x5, x6, x7⟩, ⟨x8, x9, x10, x11, x12, x13, x14, x15⟩, x16, x17, x18, x19⟩ := hSw; go_simp; (try with_reducible rfl))
          try simp only [Act.put, List.setIfInBounds_toArray, List.set_cons_succ, List.set_cons_zero]
          refine anyK_take2 (i := 1) (v := ?v1_34) rfl (by kernel_rfl) (by kernel_rfl) (by kernel_rfl) (by rfl) (fun _ _ _ h => h) (by rfl) hHeld ?hy1_34 (some 62) (by rfl) ?rest1_34
          case hy1_34 => (intro W hSw; obtain ⟨⟨x0, x1, x2, x3, x4, x5, x6, x7⟩, ⟨x8, x9, x10, x11, x12, x13, x14, x15⟩, x16, x17, x18, x19⟩ := hSw; go_simp; (try with_reducible rfl))
          try simp only [Act.put, List.setIfInBounds_toArray, List.set_cons_succ, List.set_cons_zero]
          refine anyK_take2 (i := 2) (v := ?v2_35) rfl (by kernel_rfl) (by kernel_rfl) (by kernel_rfl) (by rfl) (fun _ _ _ h => h) (by rfl) hHeld ?hy2_35 (some 63) (by rfl) ?rest2_35
          case hy2_35 => (intro W hSw; obtain ⟨⟨x0, x1, x2, x3, x4, x5, x6, x7⟩, ⟨x8, x9, x10, x11, x12, x13, x14, x15⟩, x16, x17, x18, x19⟩ := hSw; go_simp; (try with_reducible rfl))
          try simp only [Act.put, List.setIfInBounds_toArray, List.set_cons_succ, List.set_cons_zero]
          refine anyK_take2 (i := 3) (v := ?v3_36) rfl (by kernel_rfl) (by kernel_rfl) (by kernel_rfl) (by rfl) (fun _ _ _ h => h) (by rfl) hHeld ?hy3_36 (some 64) (by rfl) ?rest3_36
          case hy3_36 => (intro W hSw; obtain ⟨⟨x0, x1, x2, x3, x4, x5, x6, x7⟩, ⟨x8, x9, x10, x11, x12, x13, x14, x15⟩, x16, x17, x18, x19⟩ := hSw; go_simp; (try with_reducible rfl))
          try simp only [Act.put, List.setIfInBounds_toArray, List.set_cons_succ, List.set_cons_zero]
          refine anyK_skip (i := 4) rfl (by kernel_rfl) (by kernel_rfl) (by kernel_rfl) (by kernel_rfl) (fun _ _ _ h => h) (by rfl) hHeld (some 65) (by rfl) ?_
          try simp only [Act.put, List.setIfInBounds_toArray, List.set_cons_succ, List.set_cons_zero]
          refine anyK_skip (i := 5) rfl (by kernel_rfl) (by kernel_rfl) (by kernel_rfl) (by kernel_rfl) (fun _ _ _ h => h) (by rfl) hHeld (some 66) (by rfl) ?_
          try simp only [Act.put, List.setIfInBounds_toArray, List.set_cons_succ, List.set_cons_zero]
          refine anyK_skip (i := 6) rfl (by kernel_rfl) (by kernel_rfl) (by kernel_rfl) (by kernel_rfl) (fun _ _ _ h => h) (by rfl) hHeld (some 67) (by rfl) ?_
          try simp only [Act.put, List.setIfInBounds_toArray, List.set_cons_succ, List.set_cons_zero]
          refine anyK_skip (i := 7) rfl (by kernel_rfl) (by kernel_rfl) (by kernel_rfl) (by kernel_rfl) (fun _ _ _ h => h) (by rfl) hHeld (some 68) (by rfl) ?_
          try simp only [Act.put, List.setIfInBounds_toArray, List.set_cons_succ, List.set_cons_zero]
          refine anyK_take2 (i := 8) (v := ?v8_37) rfl (by kernel_rfl) (by kernel_rfl) (by kernel_rfl) (by rfl) (fun _ _ _ h => h) (by rfl) hHeld ?hy8_37 (some 69) (by rfl) ?rest8_37
          case hy8_37 => (intro W hSw; obtain ⟨⟨x0, x1, x2, x3, x4, x5, x6, x7⟩, ⟨x8, x9, x10, x11, x12, x13, x14, x15⟩, x16, x17, x18, x19⟩ := hSw; go_simp; (try with_reducible rfl))
          try simp only [Act.put, List.setIfInBounds_toArray, List.set_cons_succ, List.set_cons_zero]
          refine anyK_take2 (i := 9) (v := ?v9_38) rfl (by kernel_rfl) (by kernel_rfl) (by kernel_rfl) (by rfl) (fun _ _ _ h => h) (by rfl) hHeld ?hy9_38 (some 70) (by rfl) ?rest9_38
          case hy9_38 => (intro W hSw; obtain ⟨⟨x0, x1, x2, x3, x4, x5, x6, x7⟩, ⟨x8, x9, x10, x11, x12, x13, x14, x15⟩, x16, x17, x18, x19⟩ := hSw; go_simp; (try with_reducible rfl))
          try simp only [Act.put, List.setIfInBounds_toArray, List.set_cons_succ, List.set_cons_zero]
          refine anyK_skip (i := 10) rfl (by kernel_rfl) (by kernel_rfl) (by kernel_rfl) (by kernel_rfl) (fun _ _ _ h => h) (by rfl) hHeld (some 71) (by rfl) ?_
          try simp only [Act.put, List.setIfInBounds_toArray, List.set_cons_succ, List.set_cons_zero]
          refine anyK_skip (i := 11) rfl (by kernel_rfl) (by kernel_rfl) (by kernel_rfl) (by kernel_rfl) (fun _ _ _ h => h) (by rfl) hHeld (some 72) (by rfl) ?_
          try simp only [Act.put, List.setIfInBounds_toArray, List.set_cons_succ, List.set_cons_zero]
          refine anyK_skip (i := 12) rfl (by kernel_rfl) (by kernel_rfl) (by kernel_rfl) (by kernel_rfl) (fun _ _ _ h => h) (by rfl) hHeld (some 73) (by rfl) ?_
          try simp only [Act.put, List.setIfInBounds_toArray, List.set_cons_succ, List.set_cons_zero]
          refine anyK_skip (i := 13) rfl (by kernel_rfl) (by kernel_rfl) (by kernel_rfl) (by kernel_rfl) (fun _ _ _ h => h) (by rfl) hHeld (some 74) (by rfl) ?_
          try simp only [Act.put, List.setIfInBounds_toArray, List.set_cons_succ, List.set_cons_zero]
          refine anyK_skip (i := 14) rfl (by kernel_rfl) (by kernel_rfl) (by kernel_rfl) (by kernel_rfl) (fun _ _ _ h => h) (by rfl) hHeld (some 75) (by rfl) ?_
          try simp only [Act.put, List.setIfInBounds_toArray, List.set_cons_succ, List.set_cons_zero]
          refine anyK_skip (i := 15) rfl (by kernel_rfl) (by kernel_rfl) (by kernel_rfl) (by kernel_rfl) (fun _ _ _ h => h) (by rfl) hHeld (some 76) (by rfl) ?_
          try simp only [Act.put, List.setIfInBounds_toArray, List.set_cons_succ, List.set_cons_zero]
          refine anyK_skip (i := 16) rfl (by kernel_rfl) (by kernel_rfl) (by kernel_rfl) (by kernel_rfl) (fun _ _ _ h => h) (by rfl) hHeld (some 77) (by rfl) ?_
          try simp only [Act.put, List.setIfInBounds_toArray, List.set_cons_succ, List.set_cons_zero]
          refine anyK_take2 (i := 17) (v := ?v17_39) rfl (by kernel_rfl) (by kernel_rfl) (by kernel_rfl) (by rfl) (fun _ _ _ h => h) (by rfl) hHeld ?hy17_39 (some 78) (by rfl) ?rest17_39
          case hy17_39 => (intro W hSw; obtain ⟨⟨x0, x1, x2, x3, x4, x5, x6, x7⟩, ⟨x8, x9, x10, x11, x12, x13, x14, x15⟩, x16, x17, x18, x19⟩ := hSw; go_simp; (try with_reducible rfl))
          try simp only [Act.put, List.setIfInBounds_toArray, List.set_cons_succ, List.set_cons_zero]
          refine anyK_done (by kernel_rfl) ?_ _
          clear hHeld
          go_wp2_with fail
          go_roundw
          case rel => exact ⟨i + 1, by omega, by go_num, by rw [HCe.out], hid (by rw [HQe.out]; exact (HAf.out _ HID.out).out.1), hid (HAf.out _ HID.out).out.2.1, hid (by rw [HTe.out]; exact (HAf.out _ HID.out).out.2.2.1), hid (HAf.out _ HID.out).out.2.2.2.1, hid (HAf.out _ HID.out).out.2.2.2.2.1, (HAf.out _ HID.out).out.2.2.2.2.2.1⟩
          case measure => simp [intOf]; omega
        · have hq : ((i : Int) == (k : Int)) = false := by simpa using (show ¬ (i : Int) = (k : Int) by omega)
          refine region_K 99 (fun V => Box8 V bl (ofl + k * 8) ⟨xk, bk, ek, ak, rk, wk, ik, ok⟩ (.slice v1 h1 f1) (.slice v2 h2 f2) ∧ BoxK V wo.heap.size xi be en al (.slice a1 n1 c1) (.slice a2 n2 c2) inn ou ∧ BoxJ V w.heap.size KX NX FX (.slice ax m cx)) (by kernel_rfl) ?_ (fun hHeld => ?_)
          · exact HS0.out
          generalize wA.drew = vD at *
          refine anyK_take2 (i := 0) (v := ?v0_40) rfl (by kernel_rfl) (by kernel_rfl) (by kernel_rfl) (by rfl) (fun _ _ _ h => h) (by rfl) hHeld ?hy0_40 (some 61) (by rfl) ?rest0_40
          case hy0_40 => (intro W hSw; obtain ⟨⟨x0, x1, x2, x3, x4, x5, x6, x7⟩, ⟨x8, x9, x10, x11, x12, x13, x14, x15⟩, x16, x17, x18, x19⟩ := hSw; go_simp; (try with_reducible rfl))
          try simp only [Act.put, List.setIfInBounds_toArray, List.set_cons_succ, List.set_cons_zero]
          refine anyK_take2 (i := 1) (v := ?v1_41) rfl (by kernel_rfl) (by kernel_rfl) (by kernel_rfl) (by rfl) (fun _ _ _ h => h) (by rfl) hHeld ?hy1_41 (some 62) (by rfl) ?rest1_41
          case hy1_41 => (intro W hSw; obtain ⟨⟨x0, x1, x2, x3, x4, x5, x6, x7⟩, ⟨x8, x9, x10, x11, x12, x13, x14, x15⟩, x16, x17, x18, x19⟩ := hSw; go_simp; (try with_reducible rfl))
          try simp only [Act.put, List.setIfInBounds_toArray, List.set_cons_succ, List.set_cons_zero]
          refine anyK_take2 (i := 2) (v := ?v2_42) rfl (by kernel_rfl) (by kernel_rfl) (by kernel_rfl) (by rfl) (fun _ _ _ h => h) (by rfl) hHeld ?hy2_42 (some 63) (by rfl) ?rest2_42
          case hy2_42 => (intro W hSw; obtain ⟨⟨x0, x1, x2, x3, x4, x5, x6, x7⟩, ⟨x8, x9, x10, x11, x12, x13, x14, x15⟩, x16, x17, x18, x19⟩ := hSw; go_simp; (try with_reducible rfl))
          try simp only [Act.put, List.setIfInBounds_toArray, List.set_cons_succ, List.set_cons_zero]
          refine anyK_take2 (i := 3) (v := ?v3_43) rfl (by kernel_rfl) (by kernel_rfl) (by kernel_rfl) (by rfl) (fun _ _ _ h => h) (by rfl) hHeld ?hy3_43 (some 64) (by rfl) ?rest3_43
          case hy3_43 => (intro W hSw; obtain ⟨⟨x0, x1, x2, x3, x4, x5, x6, x7⟩, ⟨x8, x9, x10, x11, x12, x13, x14, x15⟩, x16, x17, x18, x19⟩ := hSw; go_simp; (try with_reducible rfl))
          try simp only [Act.put, List.setIfInBounds_toArray, List.set_cons_succ, List.set_cons_zero]
          refine anyK_take2 (i := 4) (v := ?v4_44) rfl (by kernel_rfl) (by kernel_rfl) (by kernel_rfl) (by rfl) (fun _ _ _ h => h) (by rfl) hHeld ?hy4_44 (some 65) (by rfl) ?rest4_44
          case hy4_44 => (intro W hSw; obtain ⟨⟨x0, x1, x2, x3, x4, x5, x6, x7⟩, ⟨x8, x9, x10, x11, x12, x13, x14, x15⟩, x16, x17, x18, x19⟩ := hSw; go_simp; (try with_reducible rfl))
          try simp only [Act.put, List.setIfInBounds_toArray, List.set_cons_succ, List.set_cons_zero]
          refine anyK_take2 (i := 5) (v := ?v5_45) rfl (by kernel_rfl) (by kernel_rfl) (by kernel_rfl) (by rfl) (fun _ _ _ h => h) (by rfl) hHeld ?hy5_45 (some 66) (by rfl) ?rest5_45
          case hy5_45 => (intro W hSw; obtain ⟨⟨x0, x1, x2, x3, x4, x5, x6, x7⟩, ⟨x8, x9, x10, x11, x12, x13, x14, x15⟩, x16, x17, x18, x19⟩ := hSw; go_simp; (try with_reducible rfl))
          try simp only [Act.put, List.setIfInBounds_toArray, List.set_cons_succ, List.set_cons_zero]
          refine anyK_step (i := 6) (by kernel_rfl) rfl (fun KP hK => ?_)
          go_simp
          refine (spec_TrackReads_n ⟨xi, be, en, al, rs, ws, inn, ou⟩ ⟨KX, NX, FX, ZX⟩ c1 (.slice a2 n2 c2) cx HN1.out HQ.out.len HRD.out (HQ.out.below HBD.out (Nat.le_refl _)) hfx hzx HSm.out (by omega)).mono ?_
          rintro e vR ⟨rfl, b1⟩
          rw [HHH.out]
          have HS1 := hid (show (fun V => Box8 V bl (ofl + k * 8) ⟨xk, bk, ek, ak, rk, wk, ik, ok⟩ (.slice v1 h1 f1) (.slice v2 h2 f2) ∧ BoxK V wo.heap.size xi be en al (.slice a1 n1 c1) (.slice a2 n2 c2) inn ou ∧ BoxJ V w.heap.size KX NX FX (.slice ax m cx)) vR from ⟨HS0.out.1.below b1 (Nat.le_refl _), HS0.out.2.1.below b1 (Nat.le_refl _), HS0.out.2.2.below b1 (Nat.le_refl _)⟩)
          have HRDx := hid (HID.out.trans (b1.mono HID.out.size))
          clear b1
          go_wp2_with fail
          clear hHeld
          refine hK.out _ _ HS1.out (fun hHeld => ?_)
          clear hK KP
          try simp only [Act.put, List.setIfInBounds_toArray, List.set_cons_succ, List.set_cons_zero]
          cases HH with
          | false =>
           have hMf : M i = false := by rw [HMi.out, Bool.and_false, Bool.and_false]
           have HQe := hid (qJ_no false M ps hMf)
           have HTe := hid (show tJ false M t0 (i + 1) = tJ false M t0 i by rw [tJ_succ, hMf]; rfl)
           have HCe := hid (show cdJ false M ts (i + 1) = cdJ false M ts i by rw [cdJ_succ, hMf]; rfl)
           clear hik hMf
           refine anyK_take2 (i := 7) (v := ?v7_46) rfl (by kernel_rfl) (by kernel_rfl) (by kernel_rfl) (by rfl) (fun _ _ _ h => h) (by rfl) hHeld ?hy7_46 (some 68) (by rfl) ?rest7_46
           case hy7_46 => (intro W hSw; obtain ⟨⟨x0, x1, x2, x3, x4, x5, x6, x7⟩, ⟨x8, x9, x10, x11, x12, x13, x14, x15⟩, x16, x17, x18, x19⟩ := hSw; go_simp; (try with_reducible rfl))
           try simp only [Act.put, List.setIfInBounds_toArray, List.set_cons_succ, List.set_cons_zero]
           refine anyK_take2 (i := 8) (v := ?v8_47) rfl (by kernel_rfl) (by kernel_rfl) (by kernel_rfl) (by rfl) (fun _ _ _ h => h) (by rfl) hHeld ?hy8_47 (some 69) (by rfl) ?rest8_47
           case hy8_47 => (intro W hSw; obtain ⟨⟨x0, x1, x2, x3, x4, x5, x6, x7⟩, ⟨x8, x9, x10, x11, x12, x13, x14, x15⟩, x16, x17, x18, x19⟩ := hSw; go_simp; (try with_reducible rfl))
           try simp only [Act.put, List.setIfInBounds_toArray, List.set_cons_succ, List.set_cons_zero]
           refine anyK_take2 (i := 9) (v := ?v9_48) rfl (by kernel_rfl) (by kernel_rfl) (by kernel_rfl) (by rfl) (fun _ _ _ h => h) (by rfl) hHeld ?hy9_48 (some 70) (by rfl) ?rest9_48
           case hy9_48 => (intro W hSw; obtain ⟨⟨x0, x1, x2, x3, x4, x5, x6, x7⟩, ⟨x8, x9, x10, x11, x12, x13, x14, x15⟩, x16, x17, x18, x19⟩ := hSw; go_simp; (try with_reducible rfl))
           try simp only [Act.put, List.setIfInBounds_toArray, List.set_cons_succ, List.set_cons_zero]
           refine anyK_skip (i := 10) rfl (by kernel_rfl) (by kernel_rfl) (by kernel_rfl) (by kernel_rfl) (fun _ _ _ h => h) (by rfl) hHeld (some 71) (by rfl) ?_
           try simp only [Act.put, List.setIfInBounds_toArray, List.set_cons_succ, List.set_cons_zero]
           refine anyK_skip (i := 11) rfl (by kernel_rfl) (by kernel_rfl) (by kernel_rfl) (by kernel_rfl) (fun _ _ _ h => h) (by rfl) hHeld (some 72) (by rfl) ?_
           try simp only [Act.put, List.setIfInBounds_toArray, List.set_cons_succ, List.set_cons_zero]
           refine anyK_skip (i := 12) rfl (by kernel_rfl) (by kernel_rfl) (by kernel_rfl) (by kernel_rfl) (fun _ _ _ h => h) (by rfl) hHeld (some 73) (by rfl) ?_
           try simp only [Act.put, List.setIfInBounds_toArray, List.set_cons_succ, List.set_cons_zero]
           refine anyK_skip (i := 13) rfl (by kernel_rfl) (by kernel_rfl) (by kernel_rfl) (by kernel_rfl) (fun _ _ _ h => h) (by rfl) hHeld (some 74) (by rfl) ?_
           try simp only [Act.put, List.setIfInBounds_toArray, List.set_cons_succ, List.set_cons_zero]
           refine anyK_skip (i := 14) rfl (by kernel_rfl) (by kernel_rfl) (by kernel_rfl) (by kernel_rfl) (fun _ _ _ h => h) (by rfl) hHeld (some 75) (by rfl) ?_
           try simp only [Act.put, List.setIfInBounds_toArray, List.set_cons_succ, List.set_cons_zero]
           refine anyK_skip (i := 15) rfl (by kernel_rfl) (by kernel_rfl) (by kernel_rfl) (by kernel_rfl) (fun _ _ _ h => h) (by rfl) hHeld (some 76) (by rfl) ?_
           try simp only [Act.put, List.setIfInBounds_toArray, List.set_cons_succ, List.set_cons_zero]
           refine anyK_skip (i := 16) rfl (by kernel_rfl) (by kernel_rfl) (by kernel_rfl) (by kernel_rfl) (fun _ _ _ h => h) (by rfl) hHeld (some 77) (by rfl) ?_
           try simp only [Act.put, List.setIfInBounds_toArray, List.set_cons_succ, List.set_cons_zero]
           refine anyK_take2 (i := 17) (v := ?v17_49) rfl (by kernel_rfl) (by kernel_rfl) (by kernel_rfl) (by rfl) (fun _ _ _ h => h) (by rfl) hHeld ?hy17_49 (some 78) (by rfl) ?rest17_49
           case hy17_49 => (intro W hSw; obtain ⟨⟨x0, x1, x2, x3, x4, x5, x6, x7⟩, ⟨x8, x9, x10, x11, x12, x13, x14, x15⟩, x16, x17, x18, x19⟩ := hSw; go_simp; (try with_reducible rfl))
           try simp only [Act.put, List.setIfInBounds_toArray, List.set_cons_succ, List.set_cons_zero]
           refine anyK_done (by kernel_rfl) ?_ _
           clear hHeld
           go_wp2_with fail
           go_roundw
           case rel => exact ⟨i + 1, by omega, by go_num, by rw [HCe.out], hid (by rw [HQe.out]; exact (HAf.out _ HRDx.out).out.1), hid (HAf.out _ HRDx.out).out.2.1, hid (by rw [HTe.out]; exact (HAf.out _ HRDx.out).out.2.2.1), hid (HAf.out _ HRDx.out).out.2.2.2.1, hid (HAf.out _ HRDx.out).out.2.2.2.2.1, (HAf.out _ HRDx.out).out.2.2.2.2.2.1⟩
           case measure => simp [intOf]; omega
          | true =>
           replace HMi := hid (show M i = CB by rw [HMi.out, decide_eq_false hik, Bool.and_true]; rfl)
           refine anyK_take2 (i := 7) (v := ?v7_50) rfl (by kernel_rfl) (by kernel_rfl) (by kernel_rfl) (by rfl) (fun _ _ _ h => h) (by rfl) hHeld ?hy7_50 (some 68) (by rfl) ?rest7_50
           case hy7_50 => (intro W hSw; obtain ⟨⟨x0, x1, x2, x3, x4, x5, x6, x7⟩, ⟨x8, x9, x10, x11, x12, x13, x14, x15⟩, x16, x17, x18, x19⟩ := hSw; go_simp; (try with_reducible rfl))
           try simp only [Act.put, List.setIfInBounds_toArray, List.set_cons_succ, List.set_cons_zero]
           refine anyK_take2 (i := 8) (v := ?v8_51) rfl (by kernel_rfl) (by kernel_rfl) (by kernel_rfl) (by rfl) (fun _ _ _ h => h) (by rfl) hHeld ?hy8_51 (some 69) (by rfl) ?rest8_51
           case hy8_51 => (intro W hSw; obtain ⟨⟨x0, x1, x2, x3, x4, x5, x6, x7⟩, ⟨x8, x9, x10, x11, x12, x13, x14, x15⟩, x16, x17, x18, x19⟩ := hSw; go_simp; (try with_reducible rfl))
           try simp only [Act.put, List.setIfInBounds_toArray, List.set_cons_succ, List.set_cons_zero]
           refine anyK_take2 (i := 9) (v := ?v9_52) rfl (by kernel_rfl) (by kernel_rfl) (by kernel_rfl) (by rfl) (fun _ _ _ h => h) (by rfl) hHeld ?hy9_52 (some 70) (by rfl) ?rest9_52
           case hy9_52 => (intro W hSw; obtain ⟨⟨x0, x1, x2, x3, x4, x5, x6, x7⟩, ⟨x8, x9, x10, x11, x12, x13, x14, x15⟩, x16, x17, x18, x19⟩ := hSw; go_simp; (try with_reducible rfl))
           try simp only [Act.put, List.setIfInBounds_toArray, List.set_cons_succ, List.set_cons_zero]
           refine anyK_take2 (i := 10) (v := ?v10_53) rfl (by kernel_rfl) (by kernel_rfl) (by kernel_rfl) (by rfl) (fun _ _ _ h => h) (by rfl) hHeld ?hy10_53 (some 71) (by rfl) ?rest10_53
           case hy10_53 => (intro W hSw; obtain ⟨⟨x0, x1, x2, x3, x4, x5, x6, x7⟩, ⟨x8, x9, x10, x11, x12, x13, x14, x15⟩, x16, x17, x18, x19⟩ := hSw; go_simp; (try with_reducible rfl))
           try simp only [Act.put, List.setIfInBounds_toArray, List.set_cons_succ, List.set_cons_zero]
           refine anyK_take2 (i := 11) (v := ?v11_54) rfl (by kernel_rfl) (by kernel_rfl) (by kernel_rfl) (by rfl) (fun _ _ _ h => h) (by rfl) hHeld ?hy11_54 (some 72) (by rfl) ?rest11_54
           case hy11_54 => (intro W hSw; obtain ⟨⟨x0, x1, x2, x3, x4, x5, x6, x7⟩, ⟨x8, x9, x10, x11, x12, x13, x14, x15⟩, x16, x17, x18, x19⟩ := hSw; go_simp; (try with_reducible rfl))
           try simp only [Act.put, List.setIfInBounds_toArray, List.set_cons_succ, List.set_cons_zero]
           refine anyK_take2 (i := 12) (v := ?v12_55) rfl (by kernel_rfl) (by kernel_rfl) (by kernel_rfl) (by rfl) (fun _ _ _ h => h) (by rfl) hHeld ?hy12_55 (some 73) (by rfl) ?rest12_55
           case hy12_55 => (intro W hSw; obtain ⟨⟨x0, x1, x2, x3, x4, x5, x6, x7⟩, ⟨x8, x9, x10, x11, x12, x13, x14, x15⟩, x16, x17, x18, x19⟩ := hSw; go_simp; (try with_reducible rfl))
           try simp only [Act.put, List.setIfInBounds_toArray, List.set_cons_succ, List.set_cons_zero]
           refine anyK_take2 (i := 13) (v := ?v13_56) rfl (by kernel_rfl) (by kernel_rfl) (by kernel_rfl) (by rfl) (fun _ _ _ h => h) (by rfl) hHeld ?hy13_56 (some 74) (by rfl) ?rest13_56
           case hy13_56 => (intro W hSw; obtain ⟨⟨x0, x1, x2, x3, x4, x5, x6, x7⟩, ⟨x8, x9, x10, x11, x12, x13, x14, x15⟩, x16, x17, x18, x19⟩ := hSw; go_simp; (try with_reducible rfl))
           try simp only [Act.put, List.setIfInBounds_toArray, List.set_cons_succ, List.set_cons_zero]
           refine anyK_take2 (i := 14) (v := ?v14_57) rfl (by kernel_rfl) (by kernel_rfl) (by kernel_rfl) (by rfl) (fun _ _ _ h => h) (by rfl) hHeld ?hy14_57 (some 75) (by rfl) ?rest14_57
           case hy14_57 => (intro W hSw; obtain ⟨⟨x0, x1, x2, x3, x4, x5, x6, x7⟩, ⟨x8, x9, x10, x11, x12, x13, x14, x15⟩, x16, x17, x18, x19⟩ := hSw; go_simp; (try with_reducible rfl))
           try simp only [Act.put, List.setIfInBounds_toArray, List.set_cons_succ, List.set_cons_zero]
           refine anyK_step (i := 15) (by kernel_rfl) rfl (fun KP hK => ?_)
           go_simp
           refine (spec_Concurrent ⟨xk, bk, ek, ak, rk, wk, ik, ok⟩ ⟨xi, be, en, al, rs, ws, inn, ou⟩ (.slice v1 h1 f1) (.slice v2 h2 f2) (.slice a1 n1 c1) (.slice a2 n2 c2) _).mono ?_
           rintro e u ⟨rfl, b1⟩
           rw [HCB.out]
           have HS2 := hid (show (fun V => Box8 V bl (ofl + k * 8) ⟨xk, bk, ek, ak, rk, wk, ik, ok⟩ (.slice v1 h1 f1) (.slice v2 h2 f2) ∧ BoxK V wo.heap.size xi be en al (.slice a1 n1 c1) (.slice a2 n2 c2) inn ou ∧ BoxJ V w.heap.size KX NX FX (.slice ax m cx)) u from ⟨HS1.out.1.below b1 (Nat.le_refl _), HS1.out.2.1.below b1 (Nat.le_refl _), HS1.out.2.2.below b1 (Nat.le_refl _)⟩)
           have HUD := hid (HRDx.out.trans (b1.mono HRDx.out.size))
           clear b1
           go_wp2_with fail
           clear hHeld
           refine hK.out _ _ HS2.out (fun hHeld => ?_)
           clear hK KP
           try simp only [Act.put, List.setIfInBounds_toArray, List.set_cons_succ, List.set_cons_zero]
           cases CB with
           | false =>
            have hMf := HMi.out
            have HQe := hid (qJ_no false M ps hMf)
            have HTe := hid (show tJ false M t0 (i + 1) = tJ false M t0 i by rw [tJ_succ, hMf]; rfl)
            have HCe := hid (show cdJ false M ts (i + 1) = cdJ false M ts i by rw [cdJ_succ, hMf]; rfl)
            clear hMf
            refine anyK_take2 (i := 16) (v := ?v16_58) rfl (by kernel_rfl) (by kernel_rfl) (by kernel_rfl) (by rfl) (fun _ _ _ h => h) (by rfl) hHeld ?hy16_58 (some 77) (by rfl) ?rest16_58
            case hy16_58 => (intro W hSw; obtain ⟨⟨x0, x1, x2, x3, x4, x5, x6, x7⟩, ⟨x8, x9, x10, x11, x12, x13, x14, x15⟩, x16, x17, x18, x19⟩ := hSw; go_simp; (try with_reducible rfl))
            try simp only [Act.put, List.setIfInBounds_toArray, List.set_cons_succ, List.set_cons_zero]
            refine anyK_take2 (i := 17) (v := ?v17_59) rfl (by kernel_rfl) (by kernel_rfl) (by kernel_rfl) (by rfl) (fun _ _ _ h => h) (by rfl) hHeld ?hy17_59 (some 78) (by rfl) ?rest17_59
            case hy17_59 => (intro W hSw; obtain ⟨⟨x0, x1, x2, x3, x4, x5, x6, x7⟩, ⟨x8, x9, x10, x11, x12, x13, x14, x15⟩, x16, x17, x18, x19⟩ := hSw; go_simp; (try with_reducible rfl))
            try simp only [Act.put, List.setIfInBounds_toArray, List.set_cons_succ, List.set_cons_zero]
            refine anyK_done (by kernel_rfl) ?_ _
            clear hHeld
            go_wp2_with fail
            go_roundw
            case rel => exact ⟨i + 1, by omega, by go_num, by rw [HCe.out], hid (by rw [HQe.out]; exact (HAf.out _ HUD.out).out.1), hid (HAf.out _ HUD.out).out.2.1, hid (by rw [HTe.out]; exact (HAf.out _ HUD.out).out.2.2.1), hid (HAf.out _ HUD.out).out.2.2.2.1, hid (HAf.out _ HUD.out).out.2.2.2.2.1, (HAf.out _ HUD.out).out.2.2.2.2.2.1⟩
            case measure => simp [intOf]; omega
           | true =>
            have hMt := HMi.out
            have HQe := hid (qJ_yes false M ps hMt)
            have HTe := hid (show tJ false M t0 (i + 1) = oth true (tJ false M t0 i) by rw [tJ_succ, hMt]; rfl)
            replace HCs := hid (show cdJ false M ts (i + 1) = if (decide (0 < en) && inn) = true then 2 else cdJ false M ts i by rw [HCs.out, hMt, Bool.true_and, HDg.out])
            clear hMt
            refine anyK_take2 (i := 16) (v := ?v16_60) rfl (by kernel_rfl) (by kernel_rfl) (by kernel_rfl) (by rfl) (fun _ _ _ h => h) (by rfl) hHeld ?hy16_60 (some 77) (by rfl) ?rest16_60
            case hy16_60 => (intro W hSw; obtain ⟨⟨x0, x1, x2, x3, x4, x5, x6, x7⟩, ⟨x8, x9, x10, x11, x12, x13, x14, x15⟩, x16, x17, x18, x19⟩ := hSw; go_simp; (try with_reducible rfl))
            try simp only [Act.put, List.setIfInBounds_toArray, List.set_cons_succ, List.set_cons_zero]
            refine anyK_take2 (i := 17) (v := ?v17_61) rfl (by kernel_rfl) (by kernel_rfl) (by kernel_rfl) (by rfl) (fun _ _ _ h => h) (by rfl) hHeld ?hy17_61 (some 78) (by rfl) ?rest17_61
            case hy17_61 => (intro W hSw; obtain ⟨⟨x0, x1, x2, x3, x4, x5, x6, x7⟩, ⟨x8, x9, x10, x11, x12, x13, x14, x15⟩, x16, x17, x18, x19⟩ := hSw; go_simp; (try with_reducible rfl))
            try simp only [Act.put, List.setIfInBounds_toArray, List.set_cons_succ, List.set_cons_zero]
            refine anyK_done (by kernel_rfl) ?_ _
            clear hHeld
            obtain ⟨f1, f2, f3, f4, f5, f6, f7, f8⟩ := (HAf.out _ HUD.out).out
            have hne1 : ¬ wo.heap.size = w3.heap.size := by omega
            have hne2 : ¬ w3.heap.size = wo.heap.size := by omega
            have hgw := HGL.out
            have z0 := cell_of_row _ _ 0 _ _ _ f7
            have z1 := cell_of_row _ _ 1 _ _ _ f7
            have z2 := cell_of_row _ _ 2 _ _ _ f7
            have z3 := cell_of_row _ _ 3 _ _ _ f7
            have z4 := cell_of_row _ _ 4 _ _ _ f7
            have z5 := cell_of_row _ _ 5 _ _ _ f7
            have z6 := cell_of_row _ _ 6 _ _ _ f7
            have z7 := cell_of_row _ _ 7 _ _ _ f7
            have zf : u.frozen? ⟨wo.heap.size, 7, none⟩ = false := frozen_of_row _ _ _ _ _ f7
            have k7 : ∃ v, u.cell? ⟨w3.heap.size, 6, none⟩ = some v := ⟨_, by rw [cell_of_row _ _ _ _ _ _ f3]; rfl⟩
            obtain ⟨v7, k7⟩ := k7
            have kf : u.frozen? ⟨w3.heap.size, 6, none⟩ = false := frozen_of_row _ _ _ _ _ f3
            have Ka := Keeps.set (X := fun b => b = wo.heap.size) u (p := ⟨wo.heap.size, 7, none⟩) rfl (.bool true)
            have Kb := Keeps.set (X := fun b => b = w3.heap.size) (u.setCell ⟨wo.heap.size, 7, none⟩ (.bool true)) (p := ⟨w3.heap.size, 6, none⟩) rfl (.bool true)
            have zu2 : ((u.setCell ⟨wo.heap.size, 7, none⟩ (.bool true)).setCell ⟨w3.heap.size, 6, none⟩ (.bool true)).heap.size = u.heap.size := by rw [set_size13, set_size13]
            have oR2 := owns_keep (owns_keep f1 Ka (fun b hb e => by
             obtain rfl : g = b := by simpa [Value.ownBlock] using hb
             omega)) Kb (fun b hb e => by
             obtain rfl : g = b := by simpa [Value.ownBlock] using hb
             omega)
            have oR3 := owns_row8 oR2 (by rw [qJ_len]; exact HPS.out.2) hlt (⟨xi, be, en, al, rs, ws, inn, true⟩, (ps.getD i pm0).2)
            have hth := row_there oR2 hlt
            have ev : cellsT1 (⟨xi, be, en, al, rs, ws, inn, true⟩ : Tk) (ps.getD i pm0).2 = [.int .i64 xi, .int .i64 be, .int .i64 en, .bool al, .slice a1 n1 c1, .slice a2 n2 c2, .bool inn, .bool true] := by simp only [cellsT1, HMy.out.1, HMy.out.2]
            simp only at oR3
            rw [ev] at oR3
            have Kc := Keeps.cells g [.int .i64 xi, .int .i64 be, .int .i64 en, .bool al, .slice a1 n1 c1, .slice a2 n2 c2, .bool inn, .bool true] (i * 8) ((u.setCell ⟨wo.heap.size, 7, none⟩ (.bool true)).setCell ⟨w3.heap.size, 6, none⟩ (.bool true))
            have zu3 := size_setCells13 g [.int .i64 xi, .int .i64 be, .int .i64 en, .bool al, .slice a1 n1 c1, .slice a2 n2 c2, .bool inn, .bool true] (i * 8) ((u.setCell ⟨wo.heap.size, 7, none⟩ (.bool true)).setCell ⟨w3.heap.size, 6, none⟩ (.bool true))
            have KK : ∀ b, b < u.heap.size → b ≠ g → b ≠ wo.heap.size → b ≠ w3.heap.size → (((u.setCell ⟨wo.heap.size, 7, none⟩ (.bool true)).setCell ⟨w3.heap.size, 6, none⟩ (.bool true)).setCells g (i * 8) [.int .i64 xi, .int .i64 be, .int .i64 en, .bool al, .slice a1 n1 c1, .slice a2 n2 c2, .bool inn, .bool true]).heap[b]? = u.heap[b]? := fun b hb q1 q2 q3 => (Kc.block b (by omega) q1).trans ((Kb.block b (by rw [set_size13]; exact hb) q3).trans (Ka.block b hb q2))
            have r13 : (((u.setCell ⟨wo.heap.size, 7, none⟩ (.bool true)).setCell ⟨w3.heap.size, 6, none⟩ (.bool true)).setCells g (i * 8) [.int .i64 xi, .int .i64 be, .int .i64 en, .bool al, .slice a1 n1 c1, .slice a2 n2 c2, .bool inn, .bool true]).heap[wo.heap.size]? = some (.cells #[.int .i64 xi, .int .i64 be, .int .i64 en, .bool al, .slice a1 n1 c1, .slice a2 n2 c2, .bool inn, .bool true] 52) := by
             rw [Kc.block _ (by omega) (by omega), Kb.block _ (by rw [set_size13]; exact f8) hne1, heap_setCell_same _ _ _ _ _ _ f7]; rfl
            have r10 : (((u.setCell ⟨wo.heap.size, 7, none⟩ (.bool true)).setCell ⟨w3.heap.size, 6, none⟩ (.bool true)).setCells g (i * 8) [.int .i64 xi, .int .i64 be, .int .i64 en, .bool al, .slice a1 n1 c1, .slice a2 n2 c2, .bool inn, .bool true]).heap[w3.heap.size]? = some (.cells (cellsT1 (tJ false M t0 (i + 1)) m0).toArray 52) := by
             rw [Kc.block _ (by omega) (by omega), heap_setCell_same _ _ _ (cellsT1 (tJ false M t0 i) m0).toArray 52 _ ((Ka.block _ (by omega) hne2).trans f3), HTe.out, List.setIfInBounds_toArray]
             rfl
            have hq2 : (((u.setCell ⟨wo.heap.size, 7, none⟩ (.bool true)).setCell ⟨w3.heap.size, 6, none⟩ (.bool true)).setCells g (i * 8) [.int .i64 xi, .int .i64 be, .int .i64 en, .bool al, .slice a1 n1 c1, .slice a2 n2 c2, .bool inn, .bool true]).cell? ⟨wo.heap.size, 2, none⟩ = some (.int .i64 en) := by rw [cell_of_row _ _ _ _ _ _ r13]; rfl
            have hq7 : (((u.setCell ⟨wo.heap.size, 7, none⟩ (.bool true)).setCell ⟨w3.heap.size, 6, none⟩ (.bool true)).setCells g (i * 8) [.int .i64 xi, .int .i64 be, .int .i64 en, .bool al, .slice a1 n1 c1, .slice a2 n2 c2, .bool inn, .bool true]).cell? ⟨wo.heap.size, 6, none⟩ = some (.bool inn) := by rw [cell_of_row _ _ _ _ _ _ r13]; rfl
            have GG1 := hid (show (((u.setCell ⟨wo.heap.size, 7, none⟩ (.bool true)).setCell ⟨w3.heap.size, 6, none⟩ (.bool true)).setCells g (i * 8) [.int .i64 xi, .int .i64 be, .int .i64 en, .bool al, .slice a1 n1 c1, .slice a2 n2 c2, .bool inn, .bool true]).ownsRow w2.heap.size 52 8 (.slice (some ⟨g, 0, none⟩) n c3) n (cP (qJ false M ps (i + 1))) by rw [HQe.out, HPi.out]; exact oR3)
            have GG2 := hid (show BandsP (((u.setCell ⟨wo.heap.size, 7, none⟩ (.bool true)).setCell ⟨w3.heap.size, 6, none⟩ (.bool true)).setCells g (i * 8) [.int .i64 xi, .int .i64 be, .int .i64 en, .bool al, .slice a1 n1 c1, .slice a2 n2 c2, .bool inn, .bool true]) w2.heap.size hi1 (ps.set k (t0, m0)) by
             have o1 := f2.keep Ka (fun p hp b hb e => by have := (f2.own p hp).inr hb; omega)
             have hr10 : ∀ p ∈ ps.set k (t0, m0), ∀ b, blkT p.2 b → b ≠ w3.heap.size := fun p hp b hb e => by
              have := (f2.own p hp).inr hb
              exact HP10.out p hp b hb e
             have o2 := o1.keep Kb (fun p hp b hb e => hr10 p hp b hb e)
             exact o2.off oR2 Kc)
            have GG3 := hid r10
            have GG4 := hid (show BoxJ (((u.setCell ⟨wo.heap.size, 7, none⟩ (.bool true)).setCell ⟨w3.heap.size, 6, none⟩ (.bool true)).setCells g (i * 8) [.int .i64 xi, .int .i64 be, .int .i64 en, .bool al, .slice a1 n1 c1, .slice a2 n2 c2, .bool inn, .bool true]) w.heap.size KX NX FX (.slice ax m cx) from by
             have e := KK w.heap.size (by omega) (by omega) (by omega) (by omega)
             have q := f4
             exact ⟨(World.cell?_of_block (w := u) (a := ⟨w.heap.size, 0, none⟩) e).trans q.c0, (World.cell?_of_block (w := u) (a := ⟨w.heap.size, 1, none⟩) e).trans q.c1, (World.cell?_of_block (w := u) (a := ⟨w.heap.size, 2, none⟩) e).trans q.c2, (World.cell?_of_block (w := u) (a := ⟨w.heap.size, 3, none⟩) e).trans q.c3⟩)
            have GG5 := hid (show Below w.heap.size w (((u.setCell ⟨wo.heap.size, 7, none⟩ (.bool true)).setCell ⟨w3.heap.size, 6, none⟩ (.bool true)).setCells g (i * 8) [.int .i64 xi, .int .i64 be, .int .i64 en, .bool al, .slice a1 n1 c1, .slice a2 n2 c2, .bool inn, .bool true]) from Keeps.below ((f5.setCell (p := ⟨wo.heap.size, 7, none⟩) (by show w.heap.size ≤ wo.heap.size; omega) (.bool true)).setCell (p := ⟨w3.heap.size, 6, none⟩) (by show w.heap.size ≤ w3.heap.size; omega) (.bool true)) Kc (fun b hb => by subst hb; omega) (by omega))
            have GG6 : W.heap.size ≤ (((u.setCell ⟨wo.heap.size, 7, none⟩ (.bool true)).setCell ⟨w3.heap.size, 6, none⟩ (.bool true)).setCells g (i * 8) [.int .i64 xi, .int .i64 be, .int .i64 en, .bool al, .slice a1 n1 c1, .slice a2 n2 c2, .bool inn, .bool true]).heap.size := by omega
            have HTh := hid hth
            clear f1 f2 f3 f4 f5 f6 f7 f8 Ka Kb Kc KK oR2 oR3 hth ev r13 r10 hgw
            go_wp2_with (refine wpList_store_mid rfl 52 (.tmp 84) (.tmp 83) rfl g (i * 8) #[.int .i64 xi, .int .i64 be, .int .i64 en, .bool al, .slice a1 n1 c1, .slice a2 n2 c2, .bool inn, .bool true] rfl rfl ?th ?si ?on (stopG ?_))
            case th => exact HTh.out
            case si => first | exact size_tk | simpa using size_tk
            case on => simp [Value.oneCell']
            unfold StopG
            try rw [show (#[.int .i64 xi, .int .i64 be, .int .i64 en, .bool al, .slice a1 n1 c1, .slice a2 n2 c2, .bool inn, .bool true] : Array Value).toList = [.int .i64 xi, .int .i64 be, .int .i64 en, .bool al, .slice a1 n1 c1, .slice a2 n2 c2, .bool inn, .bool true] from rfl]
            clear z0 z1 z2 z3 z4 z5 z6 z7 zf k7 kf
            generalize ((u.setCell ⟨wo.heap.size, 7, none⟩ (.bool true)).setCell ⟨w3.heap.size, 6, none⟩ (.bool true)).setCells g (i * 8) [.int .i64 xi, .int .i64 be, .int .i64 en, .bool al, .slice a1 n1 c1, .slice a2 n2 c2, .bool inn, .bool true] = u3 at *
            by_cases hen : 0 < en
            · cases inn with
              | true =>
               have HCe := hid (show cdJ false M ts (i + 1) = 2 by rw [HCs.out, decide_eq_true hen]; rfl)
               go_wp2_with fail
               go_roundw
               case rel => exact ⟨i + 1, by omega, by go_num, by rw [HCe.out], GG1, GG2, GG3, GG4, GG5, GG6⟩
               case measure => simp [intOf]; omega
              | false =>
               have HCe := hid (show cdJ false M ts (i + 1) = cdJ false M ts i by rw [HCs.out, Bool.and_false]; rfl)
               go_wp2_with fail
               go_roundw
               case rel => exact ⟨i + 1, by omega, by go_num, by rw [HCe.out], GG1, GG2, GG3, GG4, GG5, GG6⟩
               case measure => simp [intOf]; omega
            · have HCe := hid (show cdJ false M ts (i + 1) = cdJ false M ts i by rw [HCs.out, decide_eq_false hen]; rfl)
              go_wp2_with fail
              go_roundw
              case rel => exact ⟨i + 1, by omega, by go_num, by rw [HCe.out], GG1, GG2, GG3, GG4, GG5, GG6⟩
              case measure => simp [intOf]; omega
      · have hlt' : ¬ (i : Int) < (n : Int) := by omega
        obtain rfl : i = n := by omega
        have hps := HPS.out
        have hgw := HGL.out
        obtain ⟨tf, htf⟩ : ∃ tf, tJ false M t0 i = tf := ⟨_, rfl⟩
        have HES2 := hid (show writeS ts x ⟨KX, NX, FX, ZX⟩ = ((qJ false M ps i).set k (tf, m0)).map (·.1) by rw [HES.out, HL.out, List.map_set, qJ_map, hps.1, ← htf]; rfl)
        have HEC2 := hid (show writeC ts x ⟨KX, NX, FX, ZX⟩ = if (tf.inn && tf.out) = true then 2 else cdJ false M ts i by rw [HEC.out]; unfold lastC; rw [HL.out, htf])
        have hBf := qJ_last false M (by omega) i (by omega) HBP.out
        rw [htf] at hBf
        have ht10 := HT.out
        rw [htf] at ht10
        obtain ⟨xf, bf, ef, af, rf, wf, inf, ouf⟩ := tf
        obtain ⟨m0y, m0X, m0z, m0Y⟩ := m0
        obtain ⟨s1, s2, s3, s4, s5, s6, es1, es2⟩ := HM0s.out
        simp only at es1 es2
        subst es1 es2
        have z0 : wo.cell? ⟨w3.heap.size, 0, none⟩ = some (.int .i64 xf) := by rw [cell_of_row _ _ _ _ _ _ ht10]; rfl
        have z1 : wo.cell? ⟨w3.heap.size, 1, none⟩ = some (.int .i64 bf) := by rw [cell_of_row _ _ _ _ _ _ ht10]; rfl
        have z2 : wo.cell? ⟨w3.heap.size, 2, none⟩ = some (.int .i64 ef) := by rw [cell_of_row _ _ _ _ _ _ ht10]; rfl
        have z3 : wo.cell? ⟨w3.heap.size, 3, none⟩ = some (.bool af) := by rw [cell_of_row _ _ _ _ _ _ ht10]; rfl
        have z4 : wo.cell? ⟨w3.heap.size, 4, none⟩ = some (.slice s1 s2 s3) := by rw [cell_of_row _ _ _ _ _ _ ht10]; rfl
        have z5 : wo.cell? ⟨w3.heap.size, 5, none⟩ = some (.slice s4 s5 s6) := by rw [cell_of_row _ _ _ _ _ _ ht10]; rfl
        have z6 : wo.cell? ⟨w3.heap.size, 6, none⟩ = some (.bool inf) := by rw [cell_of_row _ _ _ _ _ _ ht10]; rfl
        have z7 : wo.cell? ⟨w3.heap.size, 7, none⟩ = some (.bool ouf) := by rw [cell_of_row _ _ _ _ _ _ ht10]; rfl
        have oF := owns_row8 HR.out (by rw [qJ_len]; exact hps.2) (i := k) (by have := HKN.out; have := HL.out; omega) (⟨xf, bf, ef, af, rf, wf, inf, ouf⟩, ⟨.slice s1 s2 s3, m0X, .slice s4 s5 s6, m0Y⟩)
        have hth := row_there HR.out (i := k) (by have := HKN.out; have := HL.out; omega)
        have Kc := Keeps.cells g [.int .i64 xf, .int .i64 bf, .int .i64 ef, .bool af, .slice s1 s2 s3, .slice s4 s5 s6, .bool inf, .bool ouf] (k * 8) wo
        have hOw := (hBf.off HR.out Kc).own_t (v := (.slice (some ⟨g, 0, none⟩) i c3)) (by rw [List.length_set, qJ_len, hps.2]; exact oF) (fun g' hg' => by
         obtain rfl : g = g' := by simpa [Value.ownBlock] using hg'
         omega)
        have HF := hid hOw.rd
        have HBF := hid (Keeps.below HB.out Kc (fun b hb => by subst hb; omega) HB.out.size)
        have k6 : (wo.setCells g (k * 8) [.int .i64 xf, .int .i64 bf, .int .i64 ef, .bool af, .slice s1 s2 s3, .slice s4 s5 s6, .bool inf, .bool ouf]).cell? ⟨w3.heap.size, 6, none⟩ = some (.bool inf) := (World.cell?_of_block (w := wo) (a := ⟨w3.heap.size, 6, none⟩) (Kc.block w3.heap.size (by omega) (by omega))).trans z6
        have k7 : (wo.setCells g (k * 8) [.int .i64 xf, .int .i64 bf, .int .i64 ef, .bool af, .slice s1 s2 s3, .slice s4 s5 s6, .bool inf, .bool ouf]).cell? ⟨w3.heap.size, 7, none⟩ = some (.bool ouf) := (World.cell?_of_block (w := wo) (a := ⟨w3.heap.size, 7, none⟩) (Kc.block w3.heap.size (by omega) (by omega))).trans z7
        have HTh := hid hth
        have HLs := hid (show (((qJ false M ps i).set k (⟨xf, bf, ef, af, rf, wf, inf, ouf⟩, ⟨.slice s1 s2 s3, m0X, .slice s4 s5 s6, m0Y⟩)).map (·.1)).length = i by rw [List.length_map, List.length_set, qJ_len]; exact hps.2)
        have hkz : (0 : Int) ≤ (k : Int) := by omega
        have hkl : (k : Int) < (i : Int) := by have := HKN.out; have := HL.out; omega
        generalize cdJ false M ts i = CD at *
        clear hOw Kc hth oF ht10 hBf htf hps
        go_wp2_with (refine wpList_store_mid rfl 52 (.tmp 95) (.tmp 94) rfl g (k * 8) #[.int .i64 xf, .int .i64 bf, .int .i64 ef, .bool af, .slice s1 s2 s3, .slice s4 s5 s6, .bool inf, .bool ouf] rfl rfl ?th ?si ?on (stopG ?_))
        case th => exact HTh.out
        case si => first | exact size_tk | simpa using size_tk
        case on => simp [Value.oneCell']
        unfold StopG
        try rw [show (#[.int .i64 xf, .int .i64 bf, .int .i64 ef, .bool af, .slice s1 s2 s3, .slice s4 s5 s6, .bool inf, .bool ouf] : Array Value).toList = [.int .i64 xf, .int .i64 bf, .int .i64 ef, .bool af, .slice s1 s2 s3, .slice s4 s5 s6, .bool inf, .bool ouf] from rfl]
        clear z0 z1 z2 z3 z4 z5 z6 z7
        generalize wo.setCells g (k * 8) [.int .i64 xf, .int .i64 bf, .int .i64 ef, .bool af, .slice s1 s2 s3, .slice s4 s5 s6, .bool inf, .bool ouf] = u3 at *
        cases inf with
        | true =>
         cases ouf with
         | true =>
          have HCe := hid (show writeC ts x ⟨KX, NX, FX, ZX⟩ = 2 by rw [HEC2.out]; rfl)
          go_wp2_with fail
          go_ret2
          refine ⟨?_, HBF.out⟩
          rw [HCe.out, HES2.out]
          exact ⟨_, c3, by rw [HLs.out]; rfl, HF.out⟩
         | false =>
          have HCe := hid (show writeC ts x ⟨KX, NX, FX, ZX⟩ = CD by rw [HEC2.out]; rfl)
          go_wp2_with fail
          go_ret2
          refine ⟨?_, HBF.out⟩
          rw [HCe.out, HES2.out]
          exact ⟨_, c3, by rw [HLs.out]; rfl, HF.out⟩
        | false =>
         have HCe := hid (show writeC ts x ⟨KX, NX, FX, ZX⟩ = CD by rw [HEC2.out]; rfl)
         go_wp2_with fail
         go_ret2
         refine ⟨?_, HBF.out⟩
         rw [HCe.out, HES2.out]
         exact ⟨_, c3, by rw [HLs.out]; rfl, HF.out⟩
end Go.Proofs.YtnhlfkffllbpiaaGreat
