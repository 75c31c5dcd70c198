/- The contract of the specification's EdgeRead. Conditions: at most 2^20 tracks, reads and writes, texts of at most 2^21 bytes. -/
import Derived.Test.YtnhlfkffllbpiaaEw13
import Derived.Test.YtnhlfkffllbpiaaEn13
import Derived.Test.YtnhlfkffllbpiaaEo13
namespace Go.Proofs.Ytnhlfkffllbpiaa
open Go.RowKit
set_option maxRecDepth 100000

theorem readT_all {t : Tk} {s : Im × Im} (h : t.all = true) : readT t s = t := by
  unfold readT
  rw [if_pos h]
theorem readT_six {t : Tk} {s : Im × Im} (h : t.all = false) (hr : 6 ≤ t.rs.length) : readT t s = ⟨t.xid, t.begun, t.ended, true, [], t.ws, t.inn, t.out⟩ := by
  unfold readT
  rw [if_neg (by rw [h]; simp), if_pos hr]
theorem readT_one {t : Tk} {s : Im × Im} (h : t.all = false) (hr : t.rs.length < 6) : readT t s = ⟨t.xid, t.begun, t.ended, false, t.rs ++ [s], t.ws, t.inn, t.out⟩ := by
  unfold readT
  rw [if_neg (by rw [h]; simp), if_neg (by omega)]

set_option maxHeartbeats 25600000 in
theorem spec_EdgeRead {a : Option Addr} {n : Nat} (cap : Nat) {ts : List Tk} (K1 N1 : Int) (F1 : Nat) {p1 : Option Addr} {m1 : Nat} (d1 : Nat) (K2 N2 : Int) (F2 : Nat) {p2 : Option Addr} {m2 : Nat} (d2 : Nat) {Z1 Z2 : List Int} {w : World} (h : ReadsT w a ts) (hl : ts.length = n) (hn : n ≤ 1048576) (hs : smT ts) (hln : lnT ts) (x : Int) (q1 : Reads w p1 m1 Z1) (q2 : Reads w p2 m2 Z2) (hf1 : F1 < 18446744073709551616) (hf2 : F2 < 18446744073709551616) (hz1 : m1 ≤ 2097152) (hz2 : m2 ≤ 2097152) (hnl : (p1 = none → d1 = 0) ∧ (p2 = none → d2 = 0)) :
    Calls Try.prog 34 #[.slice a n cap, .int .i64 x, .agg #[.int .i64 K1, .int .i64 N1, .float .f64 F1, .slice p1 m1 d1, .int .i64 K2, .int .i64 N2, .float .f64 F2, .slice p2 m2 d2]] w fun e w' => AnsE w' (readS ts x (⟨K1, N1, F1, Z1⟩, ⟨K2, N2, F2, Z2⟩)) (readC ts x (⟨K1, N1, F1, Z1⟩, ⟨K2, N2, F2, Z2⟩)) e ∧ Below w.heap.size w w' := by
  have hst := fun w a m => run_store Try.prog w a (.float .f64 F1) m rfl
  have hst2 := fun w a m => run_store Try.prog w a (.float .f64 F2) m rfl
  have bA := Below.alloc1 w (.cells #[.int .i64 K1, .int .i64 N1, .float .f64 F1, .slice p1 m1 d1, .int .i64 K2, .int .i64 N2, .float .f64 F2, .slice p2 m2 d2] 32)
  have HX := hid (BoxS.row (heap_alloc_new w (.cells #[.int .i64 K1, .int .i64 N1, .float .f64 F1, .slice p1 m1 d1, .int .i64 K2, .int .i64 N2, .float .f64 F2, .slice p2 m2 d2] 32)))
  have HZ := hid (alloc_size w (.cells #[.int .i64 K1, .int .i64 N1, .float .f64 F1, .slice p1 m1 d1, .int .i64 K2, .int .i64 N2, .float .f64 F2, .slice p2 m2 d2] 32))
  have HRT := hid h
  have HQ1 := hid q1
  have HQ2 := hid q2
  have HB := hid bA
  have HL := hid hl
  have HSM := hid hs
  have HLN := hid hln
  clear h hl hs hln q1 q2 bA
  cases hat : atT ts x with
  | none =>
    have hI : atI ts x = -1 := by unfold atI; rw [hat]
    have HE := hid (read_no (ts := ts) (x := x) (s := (⟨K1, N1, F1, Z1⟩, ⟨K2, N2, F2, Z2⟩)) (.inr (.inr hat)))
    clear hat
    go_enter Try.func34, Try.ntmps34
    go_wp2_with fail
    refine (spec_l13at cap (HRT.out.below HB.out (Nat.le_refl _)) HL.out (by omega) x).mono ?_
    rintro e w1 ⟨rfl, e1⟩
    subst e1
    rw [hI]
    go_wp2_with fail
    refine (spec_TracksOk cap (HRT.out.below HB.out (Nat.le_refl _)) HL.out HSM.out).mono ?_
    rintro e w1 ⟨rfl, b1⟩
    replace HB := hid (HB.out.trans (b1.mono HB.out.size))
    clear b1 hI
    cases hv : tracksB ts with
    | false =>
      clear hv
      go_wp2_with fail
      go_ret2
      refine ⟨?_, HB.out⟩
      rw [HE.out.1, HE.out.2]
      exact ⟨none, 0, rfl, ReadsT.nil _ _⟩
    | true =>
      clear hv
      go_wp2_with fail
      go_ret2
      refine ⟨?_, HB.out⟩
      rw [HE.out.1, HE.out.2]
      exact ⟨none, 0, rfl, ReadsT.nil _ _⟩
  | some k =>
    have hI : atI ts x = (k : Int) := by unfold atI; rw [hat]
    have hk0 : (0 : Int) ≤ (k : Int) := by omega
    have hk0' : ¬ (k : Int) < 0 := by omega
    obtain ⟨hkn, _, _⟩ := atT_some hat
    have hki : (k : Int) < (n : Int) := by have := HL.out; omega
    have HKN := hid hkn
    have HAT := hid hat
    clear hat hkn
    go_enter Try.func34, Try.ntmps34
    go_wp2_with fail
    refine (spec_l13at cap (HRT.out.below HB.out (Nat.le_refl _)) HL.out (by omega) x).mono ?_
    rintro e w1 ⟨rfl, e1⟩
    subst e1
    rw [hI]
    go_wp2_with fail
    refine (spec_TracksOk cap (HRT.out.below HB.out (Nat.le_refl _)) HL.out HSM.out).mono ?_
    rintro e w1 ⟨rfl, b1⟩
    have HZ1 := hid (And.intro HZ.out b1.size)
    replace HX := hid (HX.out.below b1 (Nat.le_refl _))
    replace HB := hid (HB.out.trans (b1.mono HB.out.size))
    clear b1 hI HZ
    cases hv : tracksB ts with
    | false =>
      have HE := hid (read_no (ts := ts) (x := x) (s := (⟨K1, N1, F1, Z1⟩, ⟨K2, N2, F2, Z2⟩)) (.inr (.inl hv)))
      clear hv
      go_wp2_with fail
      go_ret2
      refine ⟨?_, HB.out⟩
      rw [HE.out.1, HE.out.2]
      exact ⟨none, 0, rfl, ReadsT.nil _ _⟩
    | true =>
      have HV := hid hv
      clear hv
      obtain ⟨v0, v1, v2, v3, v4, v5, v6, v7⟩ := HX.out
      go_wp2_with fail
      clear v0 v1 v2 v3 v4 v5 v6 v7
      refine (spec_SpanOk_n K1 N1 F1 d1 K2 N2 F2 d2 (HQ1.out.below HB.out (Nat.le_refl _)) (HQ2.out.below HB.out (Nat.le_refl _)) hf1 hf2 hz1 hz2).mono ?_
      rintro e w2 ⟨rfl, b2⟩
      have HZ2 := hid (show w.heap.size + 1 ≤ w2.heap.size by have := HZ1.out; have := b2.size; omega)
      replace HX := hid (HX.out.below b2 (Nat.le_refl _))
      replace HB := hid (HB.out.trans (b2.mono HB.out.size))
      clear b2 HZ1
      cases hsp : spB (⟨K1, N1, F1, Z1⟩, ⟨K2, N2, F2, Z2⟩) with
      | false =>
        have HE := hid (read_no (ts := ts) (x := x) (s := (⟨K1, N1, F1, Z1⟩, ⟨K2, N2, F2, Z2⟩)) (.inl hsp))
        clear hsp
        go_wp2_with fail
        go_ret2
        refine ⟨?_, HB.out⟩
        rw [HE.out.1, HE.out.2]
        exact ⟨none, 0, rfl, ReadsT.nil _ _⟩
      | true =>
        have hE := read_yes hsp HV.out HAT.out
        have HES := hid hE.1
        have HEC := hid hE.2
        obtain ⟨M, hM⟩ : ∃ M, (met (hitW (⟨K1, N1, F1, Z1⟩, ⟨K2, N2, F2, Z2⟩)) (ts.getD k tk0) k ts) = M := ⟨_, rfl⟩
        have HM := hid (fun i => congrFun hM i)
        rw [hM] at HES HEC
        clear hM
        have HOK := hid (fun i hi => ((okTs_of HV.out).2 i hi).1)
        have HTr := hid (track_small ((okTs_of HV.out).2 k HKN.out).1)
        clear hsp hE
        go_wp2_with fail
        refine (spec_l13copy cap (HRT.out.below HB.out (Nat.le_refl _)) HL.out hn HSM.out HLN.out).mono ?_
        rintro e w3 ⟨v, rfl, o3, b3⟩
        obtain ⟨av, c3, rfl⟩ := o3.slice
        rw [HL.out] at o3 ⊢
        obtain ⟨ps, hps, oR, hBP⟩ := o3.pairs
        rw [HL.out] at oR
        obtain ⟨g, rfl⟩ : ∃ g, av = some ⟨g, 0, none⟩ := by
          rcases oR.2 with ⟨e, h0⟩ | ⟨g, cap, cur, e, _⟩
          · omega
          · cases e; exact ⟨g, rfl⟩
        have hlen : ps.length = n := by rw [← HL.out, ← hps, List.length_map]
        have HPS := hid (And.intro hps hlen)
        have HGL := hid (oR.lt g rfl)
        have hgr := oR.lt g rfl
        have HSLs := hid (show ∀ i, i < n → ∃ a1 c1 a2 c2, (ps.getD i pm0).2.y = .slice a1 (ts.getD i tk0).rs.length c1 ∧ (ps.getD i pm0).2.z = .slice a2 (ts.getD i tk0).ws.length c2 ∧ (ps.getD i pm0).1 = ts.getD i tk0 from fun i hi => by
          have hip : i < ps.length := by omega
          have e : ps.getD i pm0 = ps[i] := by simp [List.getD, hip]
          have ho := (hBP.own _ (List.getElem_mem hip)).part.ex
          have e1 : (ps.getD i pm0).1 = ts.getD i tk0 := by rw [← hps, map_getD]
          obtain ⟨a1, c1, a2, c2, ey, ez, _⟩ := ho
          rw [← e] at ey ez
          rw [e1] at ey ez
          exact ⟨a1, c1, a2, c2, ey, ez, e1⟩)
        have HX3 := hid (HX.out.below b3 (Nat.le_refl _))
        have HB3 := hid (HB.out.trans (b3.mono HB.out.size))
        have hS1 := HZ2.out
        have hS2 := b3.size
        obtain ⟨u1, e1, u2, e2, ey, ez, hp1⟩ := HSLs.out k (by have := HKN.out; have := HL.out; omega)
        have hbk := row_box oR hlen (i := k) (by have := HKN.out; have := HL.out; omega)
        rw [ey, ez, hp1] at hbk
        have hkp : k < ps.length := by have := HKN.out; have := HL.out; omega
        have epk : ps.getD k pm0 = ps[k] := by simp [List.getD, hkp]
        have hown := hBP.own _ (List.getElem_mem hkp)
        rw [← epk] at hown
        rw [hp1] at hown
        obtain ⟨tk, htk⟩ : ∃ tk, ts.getD k tk0 = tk := ⟨_, rfl⟩
        have HTK := hid htk
        rw [htk] at hbk ey ez hown HTr hp1
        rw [htk] at HES HEC
        obtain ⟨xk, bk, ek, ak, rk, wk, ik, ok⟩ := tk
        obtain ⟨y0, y1, y2, y3, y4, y5, y6, y7⟩ := hbk
        simp only at y0 y1 y2 y3 y4 y5 y6 y7 ey ez HTr
        obtain ⟨l1, hl1⟩ : ∃ l1, rk.length = l1 := ⟨_, rfl⟩
        obtain ⟨l2, hl2⟩ : ∃ l2, wk.length = l2 := ⟨_, rfl⟩
        rw [hl1] at y4 ey HTr
        rw [hl2] at y5 ez HTr
        have HL12 := hid (And.intro hl1 hl2)
        obtain ⟨mk, hmk⟩ : ∃ mk, (ps.getD k pm0).2 = mk := ⟨_, rfl⟩
        have HMK := hid hmk
        rw [hmk] at ey ez hown
        obtain ⟨my, mX, mz, mY⟩ := mk
        simp only at ey ez
        subst ey ez
        have HOwn := hid hown
        have HoR := hid oR
        have HoB := hid hBP
        have bB := Below.alloc1 w3 (.cells #[.int .i64 xk, .int .i64 bk, .int .i64 ek, .bool ak, .slice u1 l1 e1, .slice u2 l2 e2, .bool ik, .bool ok] 46)
        have HR4 := hid (owns_below bB (Nat.le_refl _) oR)
        have HBP4 := hid (hBP.keep (Keeps.of_below (X := fun _ => False) bB) (fun _ _ _ _ x => x.elim))
        have HT4 := hid (heap_alloc_new w3 (.cells #[.int .i64 xk, .int .i64 bk, .int .i64 ek, .bool ak, .slice u1 l1 e1, .slice u2 l2 e2, .bool ik, .bool ok] 46))
        have HX4 := hid (HX3.out.below bB (Nat.le_refl _))
        have HB4 := hid (HB3.out.trans (bB.mono HB3.out.size))
        have HZ4 := hid (alloc_size w3 (.cells #[.int .i64 xk, .int .i64 bk, .int .i64 ek, .bool ak, .slice u1 l1 e1, .slice u2 l2 e2, .bool ik, .bool ok] 46))
        have HPk := hid (show ps[k] = (⟨xk, bk, ek, ak, rk, wk, ik, ok⟩, ⟨.slice u1 l1 e1, mX, .slice u2 l2 e2, mY⟩) by rw [← epk]; exact Prod.ext hp1 hmk)
        clear o3 b3 oR hBP hown hps hlen HX HB HX3 HB3 hl1 hl2 hp1 hmk bB htk HZ2
        have hgr1 := hgr.1
        have hgr2 := hgr.2
        clear hgr
        cases ak with
        | true =>
          have HRT2 := hid (readT_all (t := ⟨xk, bk, ek, true, rk, wk, ik, ok⟩) (s := (⟨K1, N1, F1, Z1⟩, ⟨K2, N2, F2, Z2⟩)) rfl)
          rw [HRT2.out] at HES HEC
          go_wp2_with fail
          clear y0 y1 y2 y3 y4 y5 y6 y7
          obtain ⟨W, hW⟩ : ∃ W, w3.alloc (.cells #[.int .i64 xk, .int .i64 bk, .int .i64 ek, .bool true, .slice u1 l1 e1, .slice u2 l2 e2, .bool ik, .bool ok] 46) = W := ⟨_, rfl⟩
          rw [hW] at HR4 HBP4 HT4 HX4 HB4 HZ4
          try rw [hW]
          clear hW
          obtain ⟨t0, ht0⟩ : ∃ t0 : Tk, ⟨xk, bk, ek, true, rk, wk, ik, ok⟩ = t0 := ⟨_, rfl⟩
          obtain ⟨m0, hm0⟩ : ∃ m0 : Mt, ⟨.slice u1 l1 e1, mX, .slice u2 l2 e2, mY⟩ = m0 := ⟨_, rfl⟩
          have hset : ps.set k (t0, m0) = ps := by rw [← ht0, ← hm0, ← HPk.out, List.set_getElem_self]
          have HR := HR4
          have HBP := hid (show BandsP W w2.heap.size w3.heap.size (ps.set k (t0, m0)) by rw [hset]; exact HBP4.out)
          have HT := hid (show W.heap[w3.heap.size]? = some (.cells (cellsT1 t0 m0).toArray 46) by rw [← ht0, ← hm0]; exact HT4.out)
          have HX := HX4
          have HB := HB4
          have hS3 := HZ4.out
          have HM0 := hid (show t0.ws = (ts.getD k tk0).ws ∧ m0.z = (ps.getD k pm0).2.z by rw [HTK.out, HMK.out, ← ht0, ← hm0]; exact ⟨rfl, rfl⟩)
          have HM0s := hid (show ∃ s1 s2 s3 s4 s5 s6, m0.y = .slice s1 s2 s3 ∧ m0.z = .slice s4 s5 s6 by rw [← hm0]; exact ⟨_, _, _, _, _, _, rfl, rfl⟩)
          have HP10 := hid (show ∀ p ∈ ps.set k (t0, m0), ∀ b, blkT p.2 b → b = w3.heap.size → False from fun p hp b hb e => by
            have := (HBP.out.own p hp).inr hb
            omega)
          rw [ht0] at HES HEC
          obtain ⟨hi1, hhi1⟩ : ∃ hi1, w3.heap.size = hi1 := ⟨_, rfl⟩
          have hS4 : hi1 ≤ W.heap.size := by omega
          have hS5 : w3.heap.size ≤ hi1 := by omega
          rw [show BandsP W w2.heap.size w3.heap.size (ps.set k (t0, m0)) = BandsP W w2.heap.size hi1 (ps.set k (t0, m0)) by rw [hhi1]] at HBP
          clear hhi1 hset ht0 hm0 HRT2 HR4 HBP4 HT4 HX4 HB4 HZ4 HOwn HoR HoB HPk
          have hp10 : w3.heap.size < W.heap.size := by omega
          go_loopw [11, 12] (fun vc vi wr => ∃ i : Nat, i ≤ n ∧ vi = .int .i64 i ∧ vc = .int .i64 (cdJ true M ts i) ∧ Hid (wr.ownsRow w2.heap.size 46 8 (.slice (some ⟨g, 0, none⟩) n c3) n (cP (qJ true M ps i))) ∧ Hid (BandsP wr w2.heap.size hi1 (ps.set k (t0, m0))) ∧ Hid (wr.heap[w3.heap.size]? = some (.cells (cellsT1 (tJ true M t0 i) m0).toArray 46)) ∧ Hid (BoxS wr w.heap.size K1 N1 F1 (.slice p1 m1 d1) K2 N2 F2 (.slice p2 m2 d2)) ∧ Hid (Below w.heap.size w wr) ∧ W.heap.size ≤ wr.heap.size) (fun _ vi _ => n - (intOf vi).toNat)
          case atStart => exact ⟨0, Nat.zero_le _, rfl, rfl, HR, HBP, by rw [show tJ true M t0 0 = t0 from rfl]; exact HT, HX, HB, Nat.le_refl _⟩
          case round =>
            obtain ⟨i, hin, rfl, rfl, HR, HBP, HT, HX, HB, hsw⟩ := hrel
            obtain ⟨wo, hwo⟩ : ∃ wo, wo = wr := ⟨_, rfl⟩
            subst hwo
            have hqn : (qJ true M ps i).length = n := by rw [qJ_len]; exact HPS.out.2
            by_cases hlt : i < n
            · have hlt' : (i : Int) < (n : Int) := by omega
              have hi0 : (0 : Int) ≤ (i : Int) := by omega
              have hbx := row_box HR.out hqn hlt
              rw [qJ_at true M ps i (by have := HPS.out; omega) i (Nat.le_refl _)] at hbx
              obtain ⟨a1, c1, a2, c2, ey, ez, hp1⟩ := HSLs.out i hlt
              rw [ey, ez, hp1] at hbx
              have hrdW : ReadsM wo a2 (ts.getD i tk0).ws := by
                have hj : i < (ps.set k (t0, m0)).length := by rw [List.length_set]; have := HPS.out; omega
                have ho := HBP.out.own _ (List.getElem_mem hj)
                rw [List.getElem_set] at ho
                by_cases c : k = i
                · rw [if_pos c] at ho
                  have h1 := ho.wr
                  rw [HM0.out.1, HM0.out.2, c] at h1
                  rw [ez] at h1
                  exact h1.rd
                · rw [if_neg c] at ho
                  have h1 := ho.wr
                  have e : ps[i]'(by rw [List.length_set] at hj; exact hj) = ps.getD i pm0 := by simp [List.getD, show i < ps.length by have := HPS.out; omega]
                  rw [e, ez, hp1] at h1
                  exact h1.rd
              have hsmi := (HSM.out i).2
              have hlni := (HLN.out i).2
              have HTI0 := hid (show ∃ t, ts.getD i tk0 = t from ⟨_, rfl⟩)
              have HDg := hid (show dng true (ts.getD i tk0) = (decide (0 < (ts.getD i tk0).ended) && (ts.getD i tk0).out) by
                have := (track_small (HOK.out i (by have := HL.out; omega))).2.2.2
                unfold dng
                congr 1
                rw [Bool.eq_iff_iff, decide_eq_true_iff, decide_eq_true_iff]
                omega)
              have HMi := hid (show M i = (!(decide (i = k)) && (concB (ts.getD k tk0) (ts.getD i tk0) && hitW (⟨K1, N1, F1, Z1⟩, ⟨K2, N2, F2, Z2⟩) (ts.getD i tk0))) from (HM.out i).symm)
              have HCs := hid (cdJ_succ true M ts i)
              have HPi := hid (show ps.getD i pm0 = (ts.getD i tk0, (ps.getD i pm0).2) by rw [← hp1])
              have HMy := hid (And.intro ey ez)
              clear HTI0
              obtain ⟨ti, hti⟩ : ∃ ti, ts.getD i tk0 = ti := ⟨_, rfl⟩
              rw [hti] at hbx hrdW hsmi hlni HDg HMi HCs HPi HMy
              clear hti ey ez hp1
              obtain ⟨xi, be, en, al, rs, ws, inn, ou⟩ := ti
              obtain ⟨y0, y1, y2, y3, y4, y5, y6, y7⟩ := hbx
              simp only at y0 y1 y2 y3 y4 y5 y6 y7 hrdW hsmi hlni HDg HMy
              obtain ⟨n1, hn1⟩ : ∃ n1, rs.length = n1 := ⟨_, rfl⟩
              obtain ⟨n2, hn2⟩ : ∃ n2, ws.length = n2 := ⟨_, rfl⟩
              rw [hn1] at y4 HMy
              rw [hn2] at y5 hlni HMy
              have HN2 := hid hn2
              have bA := Below.alloc1 wo (.cells #[.int .i64 xi, .int .i64 be, .int .i64 en, .bool al, .slice a1 n1 c1, .slice a2 n2 c2, .bool inn, .bool ou] 46)
              have HRA := hid (heap_alloc_new wo (.cells #[.int .i64 xi, .int .i64 be, .int .i64 en, .bool al, .slice a1 n1 c1, .slice a2 n2 c2, .bool inn, .bool ou] 46))
              have HZA := hid (alloc_size wo (.cells #[.int .i64 xi, .int .i64 be, .int .i64 en, .bool al, .slice a1 n1 c1, .slice a2 n2 c2, .bool inn, .bool ou] 46))
              have HAW := hid bA
              have HRW := hid (hrdW.below bA (Nat.le_refl _))
              have HXA := hid (HX.out.below bA (Nat.le_refl _))
              have HBA := hid (HB.out.trans (bA.mono HB.out.size))
              have HSm := hid hsmi
              clear bA hrdW hn1 hn2 hsmi hqn
              go_wp2_with fail
              clear y0 y1 y2 y3 y4 y5 y6 y7
              obtain ⟨wA, hwA⟩ : ∃ wA, wo.alloc (.cells #[.int .i64 xi, .int .i64 be, .int .i64 en, .bool al, .slice a1 n1 c1, .slice a2 n2 c2, .bool inn, .bool ou] 46) = wA := ⟨_, rfl⟩
              rw [hwA] at HRA HZA HAW HRW HXA HBA
              try rw [hwA]
              clear hwA
              go_loopw [14, 15] (fun vh vj wr => ∃ j : Nat, j ≤ n2 ∧ vj = .int .i64 j ∧ vh = .bool ((ws.take j).any (fun e => inM (⟨K1, N1, F1, Z1⟩, ⟨K2, N2, F2, Z2⟩) e)) ∧ Hid (Below wA.heap.size wA wr)) (fun _ vj _ => n2 - (intOf vj).toNat)
              case atStart => exact ⟨0, Nat.zero_le _, rfl, by simp, hid (Below.refl _ _)⟩
              case round =>
                obtain ⟨j, hjn, rfl, rfl, HI⟩ := hrel
                have hr13 := (HI.out.block wo.heap.size (by have := HZA.out; omega)).trans HRA.out
                have k5 : wr.cell? ⟨wo.heap.size, 5, none⟩ = some (.slice a2 n2 c2) := by rw [cell_of_row _ _ _ _ _ _ hr13]; rfl
                by_cases hjl : j < n2
                · have hjl' : (j : Int) < (n2 : Int) := by omega
                  have hj0 : (0 : Int) ≤ (j : Int) := by omega
                  have hwsl := HN2.out
                  obtain ⟨b, off, px, cx, rfl, bx, qx, _, _, hfx⟩ := HRW.out.at (k := j) (by omega)
                  have hzx := HSm.out j
                  have HSt := hid (show (ws.take (j + 1)).any (fun e => inM (⟨K1, N1, F1, Z1⟩, ⟨K2, N2, F2, Z2⟩) e) = ((ws.take j).any (fun e => inM (⟨K1, N1, F1, Z1⟩, ⟨K2, N2, F2, Z2⟩) e) || inM (⟨K1, N1, F1, Z1⟩, ⟨K2, N2, F2, Z2⟩) (ws.getD j im0)) by
                    rw [List.take_succ_eq_append_getElem (by omega), List.any_append, show ws.getD j im0 = ws[j]'(by omega) by simp [List.getD, show j < ws.length by omega]]
                    simp)
                  obtain ⟨A, hA⟩ : ∃ A, (ws.take j).any (fun e => inM (⟨K1, N1, F1, Z1⟩, ⟨K2, N2, F2, Z2⟩) e) = A := ⟨_, rfl⟩
                  rw [hA] at HSt ⊢
                  clear hA
                  generalize ws.getD j im0 = ej at *
                  obtain ⟨KX, NX, FX, ZX⟩ := ej
                  simp only at bx qx hfx hzx
                  obtain ⟨mx, hmx⟩ : ∃ m, ZX.length = m := ⟨_, rfl⟩
                  rw [hmx] at bx qx hzx
                  have HIn := hid (show inM (⟨K1, N1, F1, Z1⟩, ⟨K2, N2, F2, Z2⟩) ⟨KX, NX, FX, ZX⟩ = inSp K1 N1 F1 m1 Z1 K2 N2 F2 m2 Z2 KX NX FX mx ZX by unfold inM; simp only [HQ1.out.len, HQ2.out.len, hmx])
                  have bD := (Below.refl wr.heap.size wr).drew
                  have HS0 := hid (show (fun V => BoxS V w.heap.size K1 N1 F1 (.slice p1 m1 d1) K2 N2 F2 (.slice p2 m2 d2) ∧ V.cell? ⟨wo.heap.size, 5, none⟩ = some (.slice (some ⟨b, off, none⟩) n2 c2) ∧ Box4 V b (off + j * 4) KX NX FX (.slice px mx cx)) wr.drew from ⟨(HXA.out.below HI.out (Nat.le_refl _)).below bD (Nat.le_refl _), k5, (bx.below HI.out (Nat.le_refl _)).below bD (Nat.le_refl _)⟩)
                  have HBi := hid ((HBA.out.trans (HI.out.mono HBA.out.size)).trans (bD.mono (by have := HI.out.size; have := HBA.out.size; omega)))
                  have QX := hid ((qx.below HI.out (Nat.le_refl _)).below bD (Nat.le_refl _))
                  have HID := hid (HI.out.trans (bD.mono HI.out.size))
                  clear bx qx hmx hwsl hr13 bD
                  cases A with
                  | true =>
                    replace HSt := hid (show (ws.take (j + 1)).any (fun e => inM (⟨K1, N1, F1, Z1⟩, ⟨K2, N2, F2, Z2⟩) e) = true by rw [HSt.out]; rfl)
                    go_wp2
                    clear k5
                    refine region_K 99 (fun V => BoxS V w.heap.size K1 N1 F1 (.slice p1 m1 d1) K2 N2 F2 (.slice p2 m2 d2) ∧ V.cell? ⟨wo.heap.size, 5, none⟩ = some (.slice (some ⟨b, off, none⟩) n2 c2) ∧ Box4 V b (off + j * 4) KX NX FX (.slice px mx cx)) (by kernel_rfl) ?_ (fun hHeld => ?_)
                    · exact HS0.out
                    generalize wr.drew = v0 at *
                    refine anyK_take2 (i := 0) (v := ?v0_1) rfl (by kernel_rfl) (by kernel_rfl) (by kernel_rfl) (by rfl) (fun _ _ _ h => h) (by rfl) hHeld ?hy0_1 (some 70) (by rfl) ?rest0_1
                    case hy0_1 => (intro W hSw; obtain ⟨⟨x0, x1, x2, x3, x4, x5, x6, x7⟩, x8, x9, x10, x11, x12⟩ := hSw; go_simp; (try with_reducible rfl))
                    try simp only [Act.put, List.setIfInBounds_toArray, List.set_cons_succ, List.set_cons_zero]
                    refine anyK_take2 (i := 1) (v := ?v1_2) rfl (by kernel_rfl) (by kernel_rfl) (by kernel_rfl) (by rfl) (fun _ _ _ h => h) (by rfl) hHeld ?hy1_2 (some 71) (by rfl) ?rest1_2
                    case hy1_2 => (intro W hSw; obtain ⟨⟨x0, x1, x2, x3, x4, x5, x6, x7⟩, x8, x9, x10, x11, x12⟩ := hSw; go_simp; (try with_reducible rfl))
                    try simp only [Act.put, List.setIfInBounds_toArray, List.set_cons_succ, List.set_cons_zero]
                    refine anyK_skip (i := 2) rfl (by kernel_rfl) (by kernel_rfl) (by kernel_rfl) (by kernel_rfl) (fun _ _ _ h => h) (by rfl) hHeld (some 72) (by rfl) ?_
                    try simp only [Act.put, List.setIfInBounds_toArray, List.set_cons_succ, List.set_cons_zero]
                    refine anyK_skip (i := 3) rfl (by kernel_rfl) (by kernel_rfl) (by kernel_rfl) (by kernel_rfl) (fun _ _ _ h => h) (by rfl) hHeld (some 73) (by rfl) ?_
                    try simp only [Act.put, List.setIfInBounds_toArray, List.set_cons_succ, List.set_cons_zero]
                    refine anyK_skip (i := 4) rfl (by kernel_rfl) (by kernel_rfl) (by kernel_rfl) (by kernel_rfl) (fun _ _ _ h => h) (by rfl) hHeld (some 74) (by rfl) ?_
                    try simp only [Act.put, List.setIfInBounds_toArray, List.set_cons_succ, List.set_cons_zero]
                    refine anyK_skip (i := 5) rfl (by kernel_rfl) (by kernel_rfl) (by kernel_rfl) (by kernel_rfl) (fun _ _ _ h => h) (by rfl) hHeld (some 75) (by rfl) ?_
                    try simp only [Act.put, List.setIfInBounds_toArray, List.set_cons_succ, List.set_cons_zero]
                    refine anyK_skip (i := 6) rfl (by kernel_rfl) (by kernel_rfl) (by kernel_rfl) (by kernel_rfl) (fun _ _ _ h => h) (by rfl) hHeld (some 76) (by rfl) ?_
                    try simp only [Act.put, List.setIfInBounds_toArray, List.set_cons_succ, List.set_cons_zero]
                    refine anyK_skip (i := 7) rfl (by kernel_rfl) (by kernel_rfl) (by kernel_rfl) (by kernel_rfl) (fun _ _ _ h => h) (by rfl) hHeld (some 77) (by rfl) ?_
                    try simp only [Act.put, List.setIfInBounds_toArray, List.set_cons_succ, List.set_cons_zero]
                    refine anyK_skip (i := 8) rfl (by kernel_rfl) (by kernel_rfl) (by kernel_rfl) (by kernel_rfl) (fun _ _ _ h => h) (by rfl) hHeld (some 78) (by rfl) ?_
                    try simp only [Act.put, List.setIfInBounds_toArray, List.set_cons_succ, List.set_cons_zero]
                    refine anyK_skip (i := 9) rfl (by kernel_rfl) (by kernel_rfl) (by kernel_rfl) (by kernel_rfl) (fun _ _ _ h => h) (by rfl) hHeld (some 79) (by rfl) ?_
                    try simp only [Act.put, List.setIfInBounds_toArray, List.set_cons_succ, List.set_cons_zero]
                    refine anyK_skip (i := 10) rfl (by kernel_rfl) (by kernel_rfl) (by kernel_rfl) (by kernel_rfl) (fun _ _ _ h => h) (by rfl) hHeld (some 80) (by rfl) ?_
                    try simp only [Act.put, List.setIfInBounds_toArray, List.set_cons_succ, List.set_cons_zero]
                    refine anyK_skip (i := 11) rfl (by kernel_rfl) (by kernel_rfl) (by kernel_rfl) (by kernel_rfl) (fun _ _ _ h => h) (by rfl) hHeld (some 81) (by rfl) ?_
                    try simp only [Act.put, List.setIfInBounds_toArray, List.set_cons_succ, List.set_cons_zero]
                    refine anyK_take2 (i := 12) (v := ?v12_3) rfl (by kernel_rfl) (by kernel_rfl) (by kernel_rfl) (by rfl) (fun _ _ _ h => h) (by rfl) hHeld ?hy12_3 (some 82) (by rfl) ?rest12_3
                    case hy12_3 => (intro W hSw; obtain ⟨⟨x0, x1, x2, x3, x4, x5, x6, x7⟩, x8, x9, x10, x11, x12⟩ := hSw; go_simp; (try with_reducible rfl))
                    try simp only [Act.put, List.setIfInBounds_toArray, List.set_cons_succ, List.set_cons_zero]
                    refine anyK_take2 (i := 13) (v := ?v13_4) rfl (by kernel_rfl) (by kernel_rfl) (by kernel_rfl) (by rfl) (fun _ _ _ h => h) (by rfl) hHeld ?hy13_4 (some 14) (by rfl) ?rest13_4
                    case hy13_4 => (intro W hSw; obtain ⟨⟨x0, x1, x2, x3, x4, x5, x6, x7⟩, x8, x9, x10, x11, x12⟩ := hSw; go_simp; (try with_reducible rfl))
                    try simp only [Act.put, List.setIfInBounds_toArray, List.set_cons_succ, List.set_cons_zero]
                    refine anyK_done (by kernel_rfl) ?_ _
                    clear hHeld
                    go_wp2_with fail
                    go_roundw
                    case rel => exact ⟨j + 1, by omega, by go_num, by rw [HSt.out], HID⟩
                    case measure => simp [intOf]; omega
                  | false =>
                    replace HSt := hid (show (ws.take (j + 1)).any (fun e => inM (⟨K1, N1, F1, Z1⟩, ⟨K2, N2, F2, Z2⟩) e) = inM (⟨K1, N1, F1, Z1⟩, ⟨K2, N2, F2, Z2⟩) ⟨KX, NX, FX, ZX⟩ by rw [HSt.out]; rfl)
                    go_wp2
                    clear k5
                    refine region_K 99 (fun V => BoxS V w.heap.size K1 N1 F1 (.slice p1 m1 d1) K2 N2 F2 (.slice p2 m2 d2) ∧ V.cell? ⟨wo.heap.size, 5, none⟩ = some (.slice (some ⟨b, off, none⟩) n2 c2) ∧ Box4 V b (off + j * 4) KX NX FX (.slice px mx cx)) (by kernel_rfl) ?_ (fun hHeld => ?_)
                    · exact HS0.out
                    generalize wr.drew = v0 at *
                    refine anyK_take2 (i := 0) (v := ?v0_5) rfl (by kernel_rfl) (by kernel_rfl) (by kernel_rfl) (by rfl) (fun _ _ _ h => h) (by rfl) hHeld ?hy0_5 (some 70) (by rfl) ?rest0_5
                    case hy0_5 => (intro W hSw; obtain ⟨⟨x0, x1, x2, x3, x4, x5, x6, x7⟩, x8, x9, x10, x11, x12⟩ := hSw; go_simp; (try with_reducible rfl))
                    try simp only [Act.put, List.setIfInBounds_toArray, List.set_cons_succ, List.set_cons_zero]
                    refine anyK_take2 (i := 1) (v := ?v1_6) rfl (by kernel_rfl) (by kernel_rfl) (by kernel_rfl) (by rfl) (fun _ _ _ h => h) (by rfl) hHeld ?hy1_6 (some 71) (by rfl) ?rest1_6
                    case hy1_6 => (intro W hSw; obtain ⟨⟨x0, x1, x2, x3, x4, x5, x6, x7⟩, x8, x9, x10, x11, x12⟩ := hSw; go_simp; (try with_reducible rfl))
                    try simp only [Act.put, List.setIfInBounds_toArray, List.set_cons_succ, List.set_cons_zero]
                    refine anyK_take2 (i := 2) (v := ?v2_7) rfl (by kernel_rfl) (by kernel_rfl) (by kernel_rfl) (by rfl) (fun _ _ _ h => h) (by rfl) hHeld ?hy2_7 (some 72) (by rfl) ?rest2_7
                    case hy2_7 => (intro W hSw; obtain ⟨⟨x0, x1, x2, x3, x4, x5, x6, x7⟩, x8, x9, x10, x11, x12⟩ := hSw; go_simp; (try with_reducible rfl))
                    try simp only [Act.put, List.setIfInBounds_toArray, List.set_cons_succ, List.set_cons_zero]
                    refine anyK_take2 (i := 3) (v := ?v3_8) rfl (by kernel_rfl) (by kernel_rfl) (by kernel_rfl) (by rfl) (fun _ _ _ h => h) (by rfl) hHeld ?hy3_8 (some 73) (by rfl) ?rest3_8
                    case hy3_8 => (intro W hSw; obtain ⟨⟨x0, x1, x2, x3, x4, x5, x6, x7⟩, x8, x9, x10, x11, x12⟩ := hSw; go_simp; (try with_reducible rfl))
                    try simp only [Act.put, List.setIfInBounds_toArray, List.set_cons_succ, List.set_cons_zero]
                    refine anyK_take2 (i := 4) (v := ?v4_9) rfl (by kernel_rfl) (by kernel_rfl) (by kernel_rfl) (by rfl) (fun _ _ _ h => h) (by rfl) hHeld ?hy4_9 (some 74) (by rfl) ?rest4_9
                    case hy4_9 => (intro W hSw; obtain ⟨⟨x0, x1, x2, x3, x4, x5, x6, x7⟩, x8, x9, x10, x11, x12⟩ := hSw; go_simp; (try with_reducible rfl))
                    try simp only [Act.put, List.setIfInBounds_toArray, List.set_cons_succ, List.set_cons_zero]
                    refine anyK_take2 (i := 5) (v := ?v5_10) rfl (by kernel_rfl) (by kernel_rfl) (by kernel_rfl) (by rfl) (fun _ _ _ h => h) (by rfl) hHeld ?hy5_10 (some 75) (by rfl) ?rest5_10
                    case hy5_10 => (intro W hSw; obtain ⟨⟨x0, x1, x2, x3, x4, x5, x6, x7⟩, x8, x9, x10, x11, x12⟩ := hSw; go_simp; (try with_reducible rfl))
                    try simp only [Act.put, List.setIfInBounds_toArray, List.set_cons_succ, List.set_cons_zero]
                    refine anyK_take2 (i := 6) (v := ?v6_11) rfl (by kernel_rfl) (by kernel_rfl) (by kernel_rfl) (by rfl) (fun _ _ _ h => h) (by rfl) hHeld ?hy6_11 (some 76) (by rfl) ?rest6_11
                    case hy6_11 => (intro W hSw; obtain ⟨⟨x0, x1, x2, x3, x4, x5, x6, x7⟩, x8, x9, x10, x11, x12⟩ := hSw; go_simp; (try with_reducible rfl))
                    try simp only [Act.put, List.setIfInBounds_toArray, List.set_cons_succ, List.set_cons_zero]
                    refine anyK_take2 (i := 7) (v := ?v7_12) rfl (by kernel_rfl) (by kernel_rfl) (by kernel_rfl) (by rfl) (fun _ _ _ h => h) (by rfl) hHeld ?hy7_12 (some 77) (by rfl) ?rest7_12
                    case hy7_12 => (intro W hSw; obtain ⟨⟨x0, x1, x2, x3, x4, x5, x6, x7⟩, x8, x9, x10, x11, x12⟩ := hSw; go_simp; (try with_reducible rfl))
                    try simp only [Act.put, List.setIfInBounds_toArray, List.set_cons_succ, List.set_cons_zero]
                    refine anyK_take2 (i := 8) (v := ?v8_13) rfl (by kernel_rfl) (by kernel_rfl) (by kernel_rfl) (by rfl) (fun _ _ _ h => h) (by rfl) hHeld ?hy8_13 (some 78) (by rfl) ?rest8_13
                    case hy8_13 => (intro W hSw; obtain ⟨⟨x0, x1, x2, x3, x4, x5, x6, x7⟩, x8, x9, x10, x11, x12⟩ := hSw; go_simp; (try with_reducible rfl))
                    try simp only [Act.put, List.setIfInBounds_toArray, List.set_cons_succ, List.set_cons_zero]
                    refine anyK_take2 (i := 9) (v := ?v9_14) rfl (by kernel_rfl) (by kernel_rfl) (by kernel_rfl) (by rfl) (fun _ _ _ h => h) (by rfl) hHeld ?hy9_14 (some 79) (by rfl) ?rest9_14
                    case hy9_14 => (intro W hSw; obtain ⟨⟨x0, x1, x2, x3, x4, x5, x6, x7⟩, x8, x9, x10, x11, x12⟩ := hSw; go_simp; (try with_reducible rfl))
                    try simp only [Act.put, List.setIfInBounds_toArray, List.set_cons_succ, List.set_cons_zero]
                    refine anyK_take2 (i := 10) (v := ?v10_15) rfl (by kernel_rfl) (by kernel_rfl) (by kernel_rfl) (by rfl) (fun _ _ _ h => h) (by rfl) hHeld ?hy10_15 (some 80) (by rfl) ?rest10_15
                    case hy10_15 => (intro W hSw; obtain ⟨⟨x0, x1, x2, x3, x4, x5, x6, x7⟩, x8, x9, x10, x11, x12⟩ := hSw; go_simp; (try with_reducible rfl))
                    try simp only [Act.put, List.setIfInBounds_toArray, List.set_cons_succ, List.set_cons_zero]
                    refine anyK_step (i := 11) (by kernel_rfl) rfl (fun KP hK => ?_)
                    go_simp
                    refine (spec_InSpan K1 N1 K2 N2 KX NX F1 F2 FX d1 d2 cx hf1 hf2 hfx (HQ1.out.below HBi.out (Nat.le_refl _)) (HQ2.out.below HBi.out (Nat.le_refl _)) QX.out hz1 hz2 hzx).mono ?_
                    rintro e u ⟨rfl, b1⟩
                    rw [← HIn.out, ← HSt.out]
                    obtain ⟨A2, hA2⟩ : ∃ A2, (ws.take (j + 1)).any (fun e => inM (⟨K1, N1, F1, Z1⟩, ⟨K2, N2, F2, Z2⟩) e) = A2 := ⟨_, rfl⟩
                    rw [hA2]
                    have HA2 := hid hA2
                    have HS1 := hid (show (fun V => BoxS V w.heap.size K1 N1 F1 (.slice p1 m1 d1) K2 N2 F2 (.slice p2 m2 d2) ∧ V.cell? ⟨wo.heap.size, 5, none⟩ = some (.slice (some ⟨b, off, none⟩) n2 c2) ∧ Box4 V b (off + j * 4) KX NX FX (.slice px mx cx)) u from ⟨HS0.out.1.below b1 (Nat.le_refl _), (b1.cell (p := ⟨wo.heap.size, 5, none⟩) (World.block_lt_of_cell? _ _ HS0.out.2.1)).trans HS0.out.2.1, HS0.out.2.2.below b1 (Nat.le_refl _)⟩)
                    have HI2 := hid (HID.out.trans (b1.mono HID.out.size))
                    clear b1 hA2
                    go_wp2_with fail
                    clear hHeld
                    refine hK.out _ _ HS1.out (fun hHeld => ?_)
                    clear hK KP
                    try simp only [Act.put, List.setIfInBounds_toArray, List.set_cons_succ, List.set_cons_zero]
                    refine anyK_take2 (i := 12) (v := ?v12_16) rfl (by kernel_rfl) (by kernel_rfl) (by kernel_rfl) (by rfl) (fun _ _ _ h => h) (by rfl) hHeld ?hy12_16 (some 82) (by rfl) ?rest12_16
                    case hy12_16 => (intro W hSw; obtain ⟨⟨x0, x1, x2, x3, x4, x5, x6, x7⟩, x8, x9, x10, x11, x12⟩ := hSw; go_simp; (try with_reducible rfl))
                    try simp only [Act.put, List.setIfInBounds_toArray, List.set_cons_succ, List.set_cons_zero]
                    refine anyK_take2 (i := 13) (v := ?v13_17) rfl (by kernel_rfl) (by kernel_rfl) (by kernel_rfl) (by rfl) (fun _ _ _ h => h) (by rfl) hHeld ?hy13_17 (some 14) (by rfl) ?rest13_17
                    case hy13_17 => (intro W hSw; obtain ⟨⟨x0, x1, x2, x3, x4, x5, x6, x7⟩, x8, x9, x10, x11, x12⟩ := hSw; go_simp; (try with_reducible rfl))
                    try simp only [Act.put, List.setIfInBounds_toArray, List.set_cons_succ, List.set_cons_zero]
                    refine anyK_done (by kernel_rfl) ?_ _
                    clear hHeld
                    go_wp2_with fail
                    go_roundw
                    case rel => exact ⟨j + 1, by omega, by go_num, by rw [HA2.out], HI2⟩
                    case measure => simp [intOf]; omega
                · have hjl' : ¬ (j : Int) < (n2 : Int) := by omega
                  have HHit := hid (show (ws.take j).any (fun e => inM (⟨K1, N1, F1, Z1⟩, ⟨K2, N2, F2, Z2⟩) e) = hitW (⟨K1, N1, F1, Z1⟩, ⟨K2, N2, F2, Z2⟩) ⟨xi, be, en, al, rs, ws, inn, ou⟩ by rw [List.take_of_length_le (by have := HN2.out; omega)]; rfl)
                  rw [HHit.out]
                  obtain ⟨bl, ofl, v1, f1, v2, f2, el, bxl0, _, _, _, _⟩ := (HRT.out.below HBA.out (Nat.le_refl _)).at (k := k) HKN.out
                  have bxl := bxl0.below HI.out (Nat.le_refl _)
                  rw [HTK.out] at bxl
                  rw [HTK.out] at HMi
                  obtain ⟨h1, hh1⟩ : ∃ h1, (⟨xk, bk, ek, true, rk, wk, ik, ok⟩ : Tk).rs.length = h1 := ⟨_, rfl⟩
                  obtain ⟨h2, hh2⟩ : ∃ h2, (⟨xk, bk, ek, true, rk, wk, ik, ok⟩ : Tk).ws.length = h2 := ⟨_, rfl⟩
                  rw [hh1, hh2] at bxl
                  subst el
                  have bD := (Below.refl wr.heap.size wr).drew
                  have HS0 := hid (show (fun V => Box8 V bl (ofl + k * 8) ⟨xk, bk, ek, true, rk, wk, ik, ok⟩ (.slice v1 h1 f1) (.slice v2 h2 f2) ∧ BoxK V wo.heap.size xi be en al (.slice a1 n1 c1) (.slice a2 n2 c2) inn ou) wr.drew from ⟨bxl.below bD (Nat.le_refl _), (BoxK.row hr13).below bD (Nat.le_refl _)⟩)
                  have HID := hid (HI.out.trans (bD.mono HI.out.size))
                  obtain ⟨CB, hCB⟩ : ∃ CB, concB ⟨xk, bk, ek, true, rk, wk, ik, ok⟩ ⟨xi, be, en, al, rs, ws, inn, ou⟩ = CB := ⟨_, rfl⟩
                  obtain ⟨HH, hHH⟩ : ∃ HH, hitW (⟨K1, N1, F1, Z1⟩, ⟨K2, N2, F2, Z2⟩) ⟨xi, be, en, al, rs, ws, inn, ou⟩ = HH := ⟨_, rfl⟩
                  rw [hCB, hHH] at HMi
                  rw [hHH]
                  have HCB := hid hCB
                  clear bxl0 bxl bD hCB hHH HHit hr13 hh1 hh2 HI
                  -- what stands behind the test, in a world that is only greater
                  have after : ∀ u, Below wA.heap.size wA u → Hid (u.ownsRow w2.heap.size 46 8 (.slice (some ⟨g, 0, none⟩) n c3) n (cP (qJ true M ps i)) ∧ BandsP u w2.heap.size hi1 (ps.set k (t0, m0)) ∧ u.heap[w3.heap.size]? = some (.cells (cellsT1 (tJ true M t0 i) m0).toArray 46) ∧ BoxS u w.heap.size K1 N1 F1 (.slice p1 m1 d1) K2 N2 F2 (.slice p2 m2 d2) ∧ Below w.heap.size w u ∧ W.heap.size ≤ u.heap.size ∧ u.heap[wo.heap.size]? = some (.cells #[.int .i64 xi, .int .i64 be, .int .i64 en, .bool al, .slice a1 n1 c1, .slice a2 n2 c2, .bool inn, .bool ou] 46) ∧ wo.heap.size < u.heap.size) := fun u bu => hid (by
                    have bb := HAW.out.trans (bu.mono HAW.out.size)
                    exact ⟨owns_below bb (Nat.le_refl _) HR.out, HBP.out.keep (Keeps.of_below (X := fun _ => False) bb) (fun _ _ _ _ x => x.elim), (bb.block _ (by omega)).trans HT.out, HX.out.below bb (Nat.le_refl _), HB.out.trans (bb.mono HB.out.size), by have := bb.size; omega, (bu.block _ (by have := HZA.out; omega)).trans HRA.out, by have := bu.size; have := HZA.out; omega⟩)
                  have HAf := hid after
                  clear after
                  by_cases hik : i = k
                  · have hq : ((i : Int) == (k : Int)) = true := by simpa using (show (i : Int) = (k : Int) by omega)
                    have hMf : M i = false := by rw [HMi.out, decide_eq_true hik]; rfl
                    have HQe := hid (qJ_no true M ps hMf)
                    have HTe := hid (show tJ true M t0 (i + 1) = tJ true M t0 i by rw [tJ_succ, hMf]; rfl)
                    have HCe := hid (show cdJ true M ts (i + 1) = cdJ true M ts i by rw [cdJ_succ, hMf]; rfl)
                    clear hik hMf
                    go_wp2
                    clear k5
                    refine region_K 99 (fun V => Box8 V bl (ofl + k * 8) ⟨xk, bk, ek, true, rk, wk, ik, ok⟩ (.slice v1 h1 f1) (.slice v2 h2 f2) ∧ BoxK V wo.heap.size xi be en al (.slice a1 n1 c1) (.slice a2 n2 c2) inn ou) (by kernel_rfl) ?_ (fun hHeld => ?_)
                    · exact HS0.out
                    generalize wr.drew = v0 at *
                    refine anyK_take2 (i := 0) (v := ?v0_18) rfl (by kernel_rfl) (by kernel_rfl) (by kernel_rfl) (by rfl) (fun _ _ _ h => h) (by rfl) hHeld ?hy0_18 (some 83) (by rfl) ?rest0_18
                    case hy0_18 => (intro W hSw; obtain ⟨⟨x0, x1, x2, x3, x4, x5, x6, x7⟩, x8, x9, x10, x11, x12, x13, x14, x15⟩ := hSw; go_simp; (try with_reducible rfl))
                    try simp only [Act.put, List.setIfInBounds_toArray, List.set_cons_succ, List.set_cons_zero]
                    refine anyK_take2 (i := 1) (v := ?v1_19) rfl (by kernel_rfl) (by kernel_rfl) (by kernel_rfl) (by rfl) (fun _ _ _ h => h) (by rfl) hHeld ?hy1_19 (some 84) (by rfl) ?rest1_19
                    case hy1_19 => (intro W hSw; obtain ⟨⟨x0, x1, x2, x3, x4, x5, x6, x7⟩, x8, x9, x10, x11, x12, x13, x14, x15⟩ := hSw; go_simp; (try with_reducible rfl))
                    try simp only [Act.put, List.setIfInBounds_toArray, List.set_cons_succ, List.set_cons_zero]
                    refine anyK_take2 (i := 2) (v := ?v2_20) rfl (by kernel_rfl) (by kernel_rfl) (by kernel_rfl) (by rfl) (fun _ _ _ h => h) (by rfl) hHeld ?hy2_20 (some 85) (by rfl) ?rest2_20
                    case hy2_20 => (intro W hSw; obtain ⟨⟨x0, x1, x2, x3, x4, x5, x6, x7⟩, x8, x9, x10, x11, x12, x13, x14, x15⟩ := hSw; go_simp; (try with_reducible rfl))
                    try simp only [Act.put, List.setIfInBounds_toArray, List.set_cons_succ, List.set_cons_zero]
                    refine anyK_take2 (i := 3) (v := ?v3_21) rfl (by kernel_rfl) (by kernel_rfl) (by kernel_rfl) (by rfl) (fun _ _ _ h => h) (by rfl) hHeld ?hy3_21 (some 86) (by rfl) ?rest3_21
                    case hy3_21 => (intro W hSw; obtain ⟨⟨x0, x1, x2, x3, x4, x5, x6, x7⟩, x8, x9, x10, x11, x12, x13, x14, x15⟩ := hSw; go_simp; (try with_reducible rfl))
                    try simp only [Act.put, List.setIfInBounds_toArray, List.set_cons_succ, List.set_cons_zero]
                    refine anyK_skip (i := 4) rfl (by kernel_rfl) (by kernel_rfl) (by kernel_rfl) (by kernel_rfl) (fun _ _ _ h => h) (by rfl) hHeld (some 87) (by rfl) ?_
                    try simp only [Act.put, List.setIfInBounds_toArray, List.set_cons_succ, List.set_cons_zero]
                    refine anyK_skip (i := 5) rfl (by kernel_rfl) (by kernel_rfl) (by kernel_rfl) (by kernel_rfl) (fun _ _ _ h => h) (by rfl) hHeld (some 88) (by rfl) ?_
                    try simp only [Act.put, List.setIfInBounds_toArray, List.set_cons_succ, List.set_cons_zero]
                    refine anyK_take2 (i := 6) (v := ?v6_22) rfl (by kernel_rfl) (by kernel_rfl) (by kernel_rfl) (by rfl) (fun _ _ _ h => h) (by rfl) hHeld ?hy6_22 (some 89) (by rfl) ?rest6_22
                    case hy6_22 => (intro W hSw; obtain ⟨⟨x0, x1, x2, x3, x4, x5, x6, x7⟩, x8, x9, x10, x11, x12, x13, x14, x15⟩ := hSw; go_simp; (try with_reducible rfl))
                    try simp only [Act.put, List.setIfInBounds_toArray, List.set_cons_succ, List.set_cons_zero]
                    refine anyK_take2 (i := 7) (v := ?v7_23) rfl (by kernel_rfl) (by kernel_rfl) (by kernel_rfl) (by rfl) (fun _ _ _ h => h) (by rfl) hHeld ?hy7_23 (some 90) (by rfl) ?rest7_23
                    case hy7_23 => (intro W hSw; obtain ⟨⟨x0, x1, x2, x3, x4, x5, x6, x7⟩, x8, x9, x10, x11, x12, x13, x14, x15⟩ := hSw; go_simp; (try with_reducible rfl))
                    try simp only [Act.put, List.setIfInBounds_toArray, List.set_cons_succ, List.set_cons_zero]
                    refine anyK_skip (i := 8) rfl (by kernel_rfl) (by kernel_rfl) (by kernel_rfl) (by kernel_rfl) (fun _ _ _ h => h) (by rfl) hHeld (some 91) (by rfl) ?_
                    try simp only [Act.put, List.setIfInBounds_toArray, List.set_cons_succ, List.set_cons_zero]
                    refine anyK_skip (i := 9) rfl (by kernel_rfl) (by kernel_rfl) (by kernel_rfl) (by kernel_rfl) (fun _ _ _ h => h) (by rfl) hHeld (some 92) (by rfl) ?_
                    try simp only [Act.put, List.setIfInBounds_toArray, List.set_cons_succ, List.set_cons_zero]
                    refine anyK_skip (i := 10) rfl (by kernel_rfl) (by kernel_rfl) (by kernel_rfl) (by kernel_rfl) (fun _ _ _ h => h) (by rfl) hHeld (some 93) (by rfl) ?_
                    try simp only [Act.put, List.setIfInBounds_toArray, List.set_cons_succ, List.set_cons_zero]
                    refine anyK_skip (i := 11) rfl (by kernel_rfl) (by kernel_rfl) (by kernel_rfl) (by kernel_rfl) (fun _ _ _ h => h) (by rfl) hHeld (some 94) (by rfl) ?_
                    try simp only [Act.put, List.setIfInBounds_toArray, List.set_cons_succ, List.set_cons_zero]
                    refine anyK_skip (i := 12) rfl (by kernel_rfl) (by kernel_rfl) (by kernel_rfl) (by kernel_rfl) (fun _ _ _ h => h) (by rfl) hHeld (some 95) (by rfl) ?_
                    try simp only [Act.put, List.setIfInBounds_toArray, List.set_cons_succ, List.set_cons_zero]
                    refine anyK_skip (i := 13) rfl (by kernel_rfl) (by kernel_rfl) (by kernel_rfl) (by kernel_rfl) (fun _ _ _ h => h) (by rfl) hHeld (some 96) (by rfl) ?_
                    try simp only [Act.put, List.setIfInBounds_toArray, List.set_cons_succ, List.set_cons_zero]
                    refine anyK_skip (i := 14) rfl (by kernel_rfl) (by kernel_rfl) (by kernel_rfl) (by kernel_rfl) (fun _ _ _ h => h) (by rfl) hHeld (some 97) (by rfl) ?_
                    try simp only [Act.put, List.setIfInBounds_toArray, List.set_cons_succ, List.set_cons_zero]
                    refine anyK_take2 (i := 15) (v := ?v15_24) rfl (by kernel_rfl) (by kernel_rfl) (by kernel_rfl) (by rfl) (fun _ _ _ h => h) (by rfl) hHeld ?hy15_24 (some 98) (by rfl) ?rest15_24
                    case hy15_24 => (intro W hSw; obtain ⟨⟨x0, x1, x2, x3, x4, x5, x6, x7⟩, x8, x9, x10, x11, x12, x13, x14, x15⟩ := hSw; go_simp; (try with_reducible rfl))
                    try simp only [Act.put, List.setIfInBounds_toArray, List.set_cons_succ, List.set_cons_zero]
                    refine anyK_done (by kernel_rfl) ?_ _
                    clear hHeld
                    go_wp2_with fail
                    go_roundw
                    case rel => exact ⟨i + 1, by omega, by go_num, by rw [HCe.out], hid (by rw [HQe.out]; exact (HAf.out _ HID.out).out.1), hid (HAf.out _ HID.out).out.2.1, hid (by rw [HTe.out]; exact (HAf.out _ HID.out).out.2.2.1), hid (HAf.out _ HID.out).out.2.2.2.1, hid (HAf.out _ HID.out).out.2.2.2.2.1, (HAf.out _ HID.out).out.2.2.2.2.2.1⟩
                    case measure => simp [intOf]; omega
                  · have hq : ((i : Int) == (k : Int)) = false := by simpa using (show ¬ (i : Int) = (k : Int) by omega)
                    cases HH with
                    | false =>
                      have hMf : M i = false := by rw [HMi.out, Bool.and_false, Bool.and_false]
                      have HQe := hid (qJ_no true M ps hMf)
                      have HTe := hid (show tJ true M t0 (i + 1) = tJ true M t0 i by rw [tJ_succ, hMf]; rfl)
                      have HCe := hid (show cdJ true M ts (i + 1) = cdJ true M ts i by rw [cdJ_succ, hMf]; rfl)
                      clear hik hMf
                      go_wp2
                      clear k5
                      refine region_K 99 (fun V => Box8 V bl (ofl + k * 8) ⟨xk, bk, ek, true, rk, wk, ik, ok⟩ (.slice v1 h1 f1) (.slice v2 h2 f2) ∧ BoxK V wo.heap.size xi be en al (.slice a1 n1 c1) (.slice a2 n2 c2) inn ou) (by kernel_rfl) ?_ (fun hHeld => ?_)
                      · exact HS0.out
                      generalize wr.drew = v0 at *
                      refine anyK_take2 (i := 0) (v := ?v0_25) rfl (by kernel_rfl) (by kernel_rfl) (by kernel_rfl) (by rfl) (fun _ _ _ h => h) (by rfl) hHeld ?hy0_25 (some 83) (by rfl) ?rest0_25
                      case hy0_25 => (intro W hSw; obtain ⟨⟨x0, x1, x2, x3, x4, x5, x6, x7⟩, x8, x9, x10, x11, x12, x13, x14, x15⟩ := hSw; go_simp; (try with_reducible rfl))
                      try simp only [Act.put, List.setIfInBounds_toArray, List.set_cons_succ, List.set_cons_zero]
                      refine anyK_take2 (i := 1) (v := ?v1_26) rfl (by kernel_rfl) (by kernel_rfl) (by kernel_rfl) (by rfl) (fun _ _ _ h => h) (by rfl) hHeld ?hy1_26 (some 84) (by rfl) ?rest1_26
                      case hy1_26 => (intro W hSw; obtain ⟨⟨x0, x1, x2, x3, x4, x5, x6, x7⟩, x8, x9, x10, x11, x12, x13, x14, x15⟩ := hSw; go_simp; (try with_reducible rfl))
                      try simp only [Act.put, List.setIfInBounds_toArray, List.set_cons_succ, List.set_cons_zero]
                      refine anyK_take2 (i := 2) (v := ?v2_27) rfl (by kernel_rfl) (by kernel_rfl) (by kernel_rfl) (by rfl) (fun _ _ _ h => h) (by rfl) hHeld ?hy2_27 (some 85) (by rfl) ?rest2_27
                      case hy2_27 => (intro W hSw; obtain ⟨⟨x0, x1, x2, x3, x4, x5, x6, x7⟩, x8, x9, x10, x11, x12, x13, x14, x15⟩ := hSw; go_simp; (try with_reducible rfl))
                      try simp only [Act.put, List.setIfInBounds_toArray, List.set_cons_succ, List.set_cons_zero]
                      refine anyK_take2 (i := 3) (v := ?v3_28) rfl (by kernel_rfl) (by kernel_rfl) (by kernel_rfl) (by rfl) (fun _ _ _ h => h) (by rfl) hHeld ?hy3_28 (some 86) (by rfl) ?rest3_28
                      case hy3_28 => (intro W hSw; obtain ⟨⟨x0, x1, x2, x3, x4, x5, x6, x7⟩, x8, x9, x10, x11, x12, x13, x14, x15⟩ := hSw; go_simp; (try with_reducible rfl))
                      try simp only [Act.put, List.setIfInBounds_toArray, List.set_cons_succ, List.set_cons_zero]
                      refine anyK_take2 (i := 4) (v := ?v4_29) rfl (by kernel_rfl) (by kernel_rfl) (by kernel_rfl) (by rfl) (fun _ _ _ h => h) (by rfl) hHeld ?hy4_29 (some 87) (by rfl) ?rest4_29
                      case hy4_29 => (intro W hSw; obtain ⟨⟨x0, x1, x2, x3, x4, x5, x6, x7⟩, x8, x9, x10, x11, x12, x13, x14, x15⟩ := hSw; go_simp; (try with_reducible rfl))
                      try simp only [Act.put, List.setIfInBounds_toArray, List.set_cons_succ, List.set_cons_zero]
                      refine anyK_take2 (i := 5) (v := ?v5_30) rfl (by kernel_rfl) (by kernel_rfl) (by kernel_rfl) (by rfl) (fun _ _ _ h => h) (by rfl) hHeld ?hy5_30 (some 88) (by rfl) ?rest5_30
                      case hy5_30 => (intro W hSw; obtain ⟨⟨x0, x1, x2, x3, x4, x5, x6, x7⟩, x8, x9, x10, x11, x12, x13, x14, x15⟩ := hSw; go_simp; (try with_reducible rfl))
                      try simp only [Act.put, List.setIfInBounds_toArray, List.set_cons_succ, List.set_cons_zero]
                      refine anyK_take2 (i := 6) (v := ?v6_31) rfl (by kernel_rfl) (by kernel_rfl) (by kernel_rfl) (by rfl) (fun _ _ _ h => h) (by rfl) hHeld ?hy6_31 (some 89) (by rfl) ?rest6_31
                      case hy6_31 => (intro W hSw; obtain ⟨⟨x0, x1, x2, x3, x4, x5, x6, x7⟩, x8, x9, x10, x11, x12, x13, x14, x15⟩ := hSw; go_simp; (try with_reducible rfl))
                      try simp only [Act.put, List.setIfInBounds_toArray, List.set_cons_succ, List.set_cons_zero]
                      refine anyK_take2 (i := 7) (v := ?v7_32) rfl (by kernel_rfl) (by kernel_rfl) (by kernel_rfl) (by rfl) (fun _ _ _ h => h) (by rfl) hHeld ?hy7_32 (some 90) (by rfl) ?rest7_32
                      case hy7_32 => (intro W hSw; obtain ⟨⟨x0, x1, x2, x3, x4, x5, x6, x7⟩, x8, x9, x10, x11, x12, x13, x14, x15⟩ := hSw; go_simp; (try with_reducible rfl))
                      try simp only [Act.put, List.setIfInBounds_toArray, List.set_cons_succ, List.set_cons_zero]
                      refine anyK_skip (i := 8) rfl (by kernel_rfl) (by kernel_rfl) (by kernel_rfl) (by kernel_rfl) (fun _ _ _ h => h) (by rfl) hHeld (some 91) (by rfl) ?_
                      try simp only [Act.put, List.setIfInBounds_toArray, List.set_cons_succ, List.set_cons_zero]
                      refine anyK_skip (i := 9) rfl (by kernel_rfl) (by kernel_rfl) (by kernel_rfl) (by kernel_rfl) (fun _ _ _ h => h) (by rfl) hHeld (some 92) (by rfl) ?_
                      try simp only [Act.put, List.setIfInBounds_toArray, List.set_cons_succ, List.set_cons_zero]
                      refine anyK_skip (i := 10) rfl (by kernel_rfl) (by kernel_rfl) (by kernel_rfl) (by kernel_rfl) (fun _ _ _ h => h) (by rfl) hHeld (some 93) (by rfl) ?_
                      try simp only [Act.put, List.setIfInBounds_toArray, List.set_cons_succ, List.set_cons_zero]
                      refine anyK_skip (i := 11) rfl (by kernel_rfl) (by kernel_rfl) (by kernel_rfl) (by kernel_rfl) (fun _ _ _ h => h) (by rfl) hHeld (some 94) (by rfl) ?_
                      try simp only [Act.put, List.setIfInBounds_toArray, List.set_cons_succ, List.set_cons_zero]
                      refine anyK_skip (i := 12) rfl (by kernel_rfl) (by kernel_rfl) (by kernel_rfl) (by kernel_rfl) (fun _ _ _ h => h) (by rfl) hHeld (some 95) (by rfl) ?_
                      try simp only [Act.put, List.setIfInBounds_toArray, List.set_cons_succ, List.set_cons_zero]
                      refine anyK_skip (i := 13) rfl (by kernel_rfl) (by kernel_rfl) (by kernel_rfl) (by kernel_rfl) (fun _ _ _ h => h) (by rfl) hHeld (some 96) (by rfl) ?_
                      try simp only [Act.put, List.setIfInBounds_toArray, List.set_cons_succ, List.set_cons_zero]
                      refine anyK_skip (i := 14) rfl (by kernel_rfl) (by kernel_rfl) (by kernel_rfl) (by kernel_rfl) (fun _ _ _ h => h) (by rfl) hHeld (some 97) (by rfl) ?_
                      try simp only [Act.put, List.setIfInBounds_toArray, List.set_cons_succ, List.set_cons_zero]
                      refine anyK_take2 (i := 15) (v := ?v15_33) rfl (by kernel_rfl) (by kernel_rfl) (by kernel_rfl) (by rfl) (fun _ _ _ h => h) (by rfl) hHeld ?hy15_33 (some 98) (by rfl) ?rest15_33
                      case hy15_33 => (intro W hSw; obtain ⟨⟨x0, x1, x2, x3, x4, x5, x6, x7⟩, x8, x9, x10, x11, x12, x13, x14, x15⟩ := hSw; go_simp; (try with_reducible rfl))
                      try simp only [Act.put, List.setIfInBounds_toArray, List.set_cons_succ, List.set_cons_zero]
                      refine anyK_done (by kernel_rfl) ?_ _
                      clear hHeld
                      go_wp2_with fail
                      go_roundw
                      case rel => exact ⟨i + 1, by omega, by go_num, by rw [HCe.out], hid (by rw [HQe.out]; exact (HAf.out _ HID.out).out.1), hid (HAf.out _ HID.out).out.2.1, hid (by rw [HTe.out]; exact (HAf.out _ HID.out).out.2.2.1), hid (HAf.out _ HID.out).out.2.2.2.1, hid (HAf.out _ HID.out).out.2.2.2.2.1, (HAf.out _ HID.out).out.2.2.2.2.2.1⟩
                      case measure => simp [intOf]; omega
                    | true =>
                      replace HMi := hid (show M i = CB by rw [HMi.out, decide_eq_false hik, Bool.and_true]; rfl)
                      go_wp2
                      clear k5
                      refine region_K 99 (fun V => Box8 V bl (ofl + k * 8) ⟨xk, bk, ek, true, rk, wk, ik, ok⟩ (.slice v1 h1 f1) (.slice v2 h2 f2) ∧ BoxK V wo.heap.size xi be en al (.slice a1 n1 c1) (.slice a2 n2 c2) inn ou) (by kernel_rfl) ?_ (fun hHeld => ?_)
                      · exact HS0.out
                      generalize wr.drew = v0 at *
                      refine anyK_take2 (i := 0) (v := ?v0_34) rfl (by kernel_rfl) (by kernel_rfl) (by kernel_rfl) (by rfl) (fun _ _ _ h => h) (by rfl) hHeld ?hy0_34 (some 83) (by rfl) ?rest0_34
                      case hy0_34 => (intro W hSw; obtain ⟨⟨x0, x1, x2, x3, x4, x5, x6, x7⟩, x8, x9, x10, x11, x12, x13, x14, x15⟩ := hSw; go_simp; (try with_reducible rfl))
                      try simp only [Act.put, List.setIfInBounds_toArray, List.set_cons_succ, List.set_cons_zero]
                      refine anyK_take2 (i := 1) (v := ?v1_35) rfl (by kernel_rfl) (by kernel_rfl) (by kernel_rfl) (by rfl) (fun _ _ _ h => h) (by rfl) hHeld ?hy1_35 (some 84) (by rfl) ?rest1_35
                      case hy1_35 => (intro W hSw; obtain ⟨⟨x0, x1, x2, x3, x4, x5, x6, x7⟩, x8, x9, x10, x11, x12, x13, x14, x15⟩ := hSw; go_simp; (try with_reducible rfl))
                      try simp only [Act.put, List.setIfInBounds_toArray, List.set_cons_succ, List.set_cons_zero]
                      refine anyK_take2 (i := 2) (v := ?v2_36) rfl (by kernel_rfl) (by kernel_rfl) (by kernel_rfl) (by rfl) (fun _ _ _ h => h) (by rfl) hHeld ?hy2_36 (some 85) (by rfl) ?rest2_36
                      case hy2_36 => (intro W hSw; obtain ⟨⟨x0, x1, x2, x3, x4, x5, x6, x7⟩, x8, x9, x10, x11, x12, x13, x14, x15⟩ := hSw; go_simp; (try with_reducible rfl))
                      try simp only [Act.put, List.setIfInBounds_toArray, List.set_cons_succ, List.set_cons_zero]
                      refine anyK_take2 (i := 3) (v := ?v3_37) rfl (by kernel_rfl) (by kernel_rfl) (by kernel_rfl) (by rfl) (fun _ _ _ h => h) (by rfl) hHeld ?hy3_37 (some 86) (by rfl) ?rest3_37
                      case hy3_37 => (intro W hSw; obtain ⟨⟨x0, x1, x2, x3, x4, x5, x6, x7⟩, x8, x9, x10, x11, x12, x13, x14, x15⟩ := hSw; go_simp; (try with_reducible rfl))
                      try simp only [Act.put, List.setIfInBounds_toArray, List.set_cons_succ, List.set_cons_zero]
                      refine anyK_take2 (i := 4) (v := ?v4_38) rfl (by kernel_rfl) (by kernel_rfl) (by kernel_rfl) (by rfl) (fun _ _ _ h => h) (by rfl) hHeld ?hy4_38 (some 87) (by rfl) ?rest4_38
                      case hy4_38 => (intro W hSw; obtain ⟨⟨x0, x1, x2, x3, x4, x5, x6, x7⟩, x8, x9, x10, x11, x12, x13, x14, x15⟩ := hSw; go_simp; (try with_reducible rfl))
                      try simp only [Act.put, List.setIfInBounds_toArray, List.set_cons_succ, List.set_cons_zero]
                      refine anyK_take2 (i := 5) (v := ?v5_39) rfl (by kernel_rfl) (by kernel_rfl) (by kernel_rfl) (by rfl) (fun _ _ _ h => h) (by rfl) hHeld ?hy5_39 (some 88) (by rfl) ?rest5_39
                      case hy5_39 => (intro W hSw; obtain ⟨⟨x0, x1, x2, x3, x4, x5, x6, x7⟩, x8, x9, x10, x11, x12, x13, x14, x15⟩ := hSw; go_simp; (try with_reducible rfl))
                      try simp only [Act.put, List.setIfInBounds_toArray, List.set_cons_succ, List.set_cons_zero]
                      refine anyK_take2 (i := 6) (v := ?v6_40) rfl (by kernel_rfl) (by kernel_rfl) (by kernel_rfl) (by rfl) (fun _ _ _ h => h) (by rfl) hHeld ?hy6_40 (some 89) (by rfl) ?rest6_40
                      case hy6_40 => (intro W hSw; obtain ⟨⟨x0, x1, x2, x3, x4, x5, x6, x7⟩, x8, x9, x10, x11, x12, x13, x14, x15⟩ := hSw; go_simp; (try with_reducible rfl))
                      try simp only [Act.put, List.setIfInBounds_toArray, List.set_cons_succ, List.set_cons_zero]
                      refine anyK_take2 (i := 7) (v := ?v7_41) rfl (by kernel_rfl) (by kernel_rfl) (by kernel_rfl) (by rfl) (fun _ _ _ h => h) (by rfl) hHeld ?hy7_41 (some 90) (by rfl) ?rest7_41
                      case hy7_41 => (intro W hSw; obtain ⟨⟨x0, x1, x2, x3, x4, x5, x6, x7⟩, x8, x9, x10, x11, x12, x13, x14, x15⟩ := hSw; go_simp; (try with_reducible rfl))
                      try simp only [Act.put, List.setIfInBounds_toArray, List.set_cons_succ, List.set_cons_zero]
                      refine anyK_take2 (i := 8) (v := ?v8_42) rfl (by kernel_rfl) (by kernel_rfl) (by kernel_rfl) (by rfl) (fun _ _ _ h => h) (by rfl) hHeld ?hy8_42 (some 91) (by rfl) ?rest8_42
                      case hy8_42 => (intro W hSw; obtain ⟨⟨x0, x1, x2, x3, x4, x5, x6, x7⟩, x8, x9, x10, x11, x12, x13, x14, x15⟩ := hSw; go_simp; (try with_reducible rfl))
                      try simp only [Act.put, List.setIfInBounds_toArray, List.set_cons_succ, List.set_cons_zero]
                      refine anyK_take2 (i := 9) (v := ?v9_43) rfl (by kernel_rfl) (by kernel_rfl) (by kernel_rfl) (by rfl) (fun _ _ _ h => h) (by rfl) hHeld ?hy9_43 (some 92) (by rfl) ?rest9_43
                      case hy9_43 => (intro W hSw; obtain ⟨⟨x0, x1, x2, x3, x4, x5, x6, x7⟩, x8, x9, x10, x11, x12, x13, x14, x15⟩ := hSw; go_simp; (try with_reducible rfl))
                      try simp only [Act.put, List.setIfInBounds_toArray, List.set_cons_succ, List.set_cons_zero]
                      refine anyK_take2 (i := 10) (v := ?v10_44) rfl (by kernel_rfl) (by kernel_rfl) (by kernel_rfl) (by rfl) (fun _ _ _ h => h) (by rfl) hHeld ?hy10_44 (some 93) (by rfl) ?rest10_44
                      case hy10_44 => (intro W hSw; obtain ⟨⟨x0, x1, x2, x3, x4, x5, x6, x7⟩, x8, x9, x10, x11, x12, x13, x14, x15⟩ := hSw; go_simp; (try with_reducible rfl))
                      try simp only [Act.put, List.setIfInBounds_toArray, List.set_cons_succ, List.set_cons_zero]
                      refine anyK_take2 (i := 11) (v := ?v11_45) rfl (by kernel_rfl) (by kernel_rfl) (by kernel_rfl) (by rfl) (fun _ _ _ h => h) (by rfl) hHeld ?hy11_45 (some 94) (by rfl) ?rest11_45
                      case hy11_45 => (intro W hSw; obtain ⟨⟨x0, x1, x2, x3, x4, x5, x6, x7⟩, x8, x9, x10, x11, x12, x13, x14, x15⟩ := hSw; go_simp; (try with_reducible rfl))
                      try simp only [Act.put, List.setIfInBounds_toArray, List.set_cons_succ, List.set_cons_zero]
                      refine anyK_take2 (i := 12) (v := ?v12_46) rfl (by kernel_rfl) (by kernel_rfl) (by kernel_rfl) (by rfl) (fun _ _ _ h => h) (by rfl) hHeld ?hy12_46 (some 95) (by rfl) ?rest12_46
                      case hy12_46 => (intro W hSw; obtain ⟨⟨x0, x1, x2, x3, x4, x5, x6, x7⟩, x8, x9, x10, x11, x12, x13, x14, x15⟩ := hSw; go_simp; (try with_reducible rfl))
                      try simp only [Act.put, List.setIfInBounds_toArray, List.set_cons_succ, List.set_cons_zero]
                      refine anyK_step (i := 13) (by kernel_rfl) rfl (fun KP hK => ?_)
                      go_simp
                      refine (spec_Concurrent ⟨xk, bk, ek, true, rk, wk, ik, ok⟩ ⟨xi, be, en, al, rs, ws, inn, ou⟩ (.slice v1 h1 f1) (.slice v2 h2 f2) (.slice a1 n1 c1) (.slice a2 n2 c2) _).mono ?_
                      rintro e u ⟨rfl, b1⟩
                      rw [HCB.out]
                      have HS1 := hid (show (fun V => Box8 V bl (ofl + k * 8) ⟨xk, bk, ek, true, rk, wk, ik, ok⟩ (.slice v1 h1 f1) (.slice v2 h2 f2) ∧ BoxK V wo.heap.size xi be en al (.slice a1 n1 c1) (.slice a2 n2 c2) inn ou) u from ⟨HS0.out.1.below b1 (Nat.le_refl _), HS0.out.2.below b1 (Nat.le_refl _)⟩)
                      have HUD := hid (HID.out.trans (b1.mono HID.out.size))
                      clear b1
                      go_wp2_with fail
                      clear hHeld
                      refine hK.out _ _ HS1.out (fun hHeld => ?_)
                      clear hK KP
                      try simp only [Act.put, List.setIfInBounds_toArray, List.set_cons_succ, List.set_cons_zero]
                      cases CB with
                      | false =>
                        have hMf := HMi.out
                        have HQe := hid (qJ_no true M ps hMf)
                        have HTe := hid (show tJ true M t0 (i + 1) = tJ true M t0 i by rw [tJ_succ, hMf]; rfl)
                        have HCe := hid (show cdJ true M ts (i + 1) = cdJ true M ts i by rw [cdJ_succ, hMf]; rfl)
                        clear hMf
                        refine anyK_take2 (i := 14) (v := ?v14_47) rfl (by kernel_rfl) (by kernel_rfl) (by kernel_rfl) (by rfl) (fun _ _ _ h => h) (by rfl) hHeld ?hy14_47 (some 97) (by rfl) ?rest14_47
                        case hy14_47 => (intro W hSw; obtain ⟨⟨x0, x1, x2, x3, x4, x5, x6, x7⟩, x8, x9, x10, x11, x12, x13, x14, x15⟩ := hSw; go_simp; (try with_reducible rfl))
                        try simp only [Act.put, List.setIfInBounds_toArray, List.set_cons_succ, List.set_cons_zero]
                        refine anyK_take2 (i := 15) (v := ?v15_48) rfl (by kernel_rfl) (by kernel_rfl) (by kernel_rfl) (by rfl) (fun _ _ _ h => h) (by rfl) hHeld ?hy15_48 (some 98) (by rfl) ?rest15_48
                        case hy15_48 => (intro W hSw; obtain ⟨⟨x0, x1, x2, x3, x4, x5, x6, x7⟩, x8, x9, x10, x11, x12, x13, x14, x15⟩ := hSw; go_simp; (try with_reducible rfl))
                        try simp only [Act.put, List.setIfInBounds_toArray, List.set_cons_succ, List.set_cons_zero]
                        refine anyK_done (by kernel_rfl) ?_ _
                        clear hHeld
                        go_wp2_with fail
                        go_roundw
                        case rel => exact ⟨i + 1, by omega, by go_num, by rw [HCe.out], hid (by rw [HQe.out]; exact (HAf.out _ HUD.out).out.1), hid (HAf.out _ HUD.out).out.2.1, hid (by rw [HTe.out]; exact (HAf.out _ HUD.out).out.2.2.1), hid (HAf.out _ HUD.out).out.2.2.2.1, hid (HAf.out _ HUD.out).out.2.2.2.2.1, (HAf.out _ HUD.out).out.2.2.2.2.2.1⟩
                        case measure => simp [intOf]; omega
                      | true =>
                        have hMt := HMi.out
                        have HQe := hid (qJ_yes true M ps hMt)
                        have HTe := hid (show tJ true M t0 (i + 1) = oth false (tJ true M t0 i) by rw [tJ_succ, hMt]; rfl)
                        replace HCs := hid (show cdJ true M ts (i + 1) = if (decide (0 < en) && ou) = true then 2 else cdJ true M ts i by rw [HCs.out, hMt, Bool.true_and, HDg.out])
                        clear hMt
                        refine anyK_take2 (i := 14) (v := ?v14_49) rfl (by kernel_rfl) (by kernel_rfl) (by kernel_rfl) (by rfl) (fun _ _ _ h => h) (by rfl) hHeld ?hy14_49 (some 97) (by rfl) ?rest14_49
                        case hy14_49 => (intro W hSw; obtain ⟨⟨x0, x1, x2, x3, x4, x5, x6, x7⟩, x8, x9, x10, x11, x12, x13, x14, x15⟩ := hSw; go_simp; (try with_reducible rfl))
                        try simp only [Act.put, List.setIfInBounds_toArray, List.set_cons_succ, List.set_cons_zero]
                        refine anyK_take2 (i := 15) (v := ?v15_50) rfl (by kernel_rfl) (by kernel_rfl) (by kernel_rfl) (by rfl) (fun _ _ _ h => h) (by rfl) hHeld ?hy15_50 (some 98) (by rfl) ?rest15_50
                        case hy15_50 => (intro W hSw; obtain ⟨⟨x0, x1, x2, x3, x4, x5, x6, x7⟩, x8, x9, x10, x11, x12, x13, x14, x15⟩ := hSw; go_simp; (try with_reducible rfl))
                        try simp only [Act.put, List.setIfInBounds_toArray, List.set_cons_succ, List.set_cons_zero]
                        refine anyK_done (by kernel_rfl) ?_ _
                        clear hHeld
                        obtain ⟨f1, f2, f3, f4, f5, f6, f7, f8⟩ := (HAf.out _ HUD.out).out
                        have hne1 : ¬ wo.heap.size = w3.heap.size := by omega
                        have hne2 : ¬ w3.heap.size = wo.heap.size := by omega
                        have hgw := HGL.out
                        have z0 := cell_of_row _ _ 0 _ _ _ f7
                        have z1 := cell_of_row _ _ 1 _ _ _ f7
                        have z2 := cell_of_row _ _ 2 _ _ _ f7
                        have z3 := cell_of_row _ _ 3 _ _ _ f7
                        have z4 := cell_of_row _ _ 4 _ _ _ f7
                        have z5 := cell_of_row _ _ 5 _ _ _ f7
                        have z6 := cell_of_row _ _ 6 _ _ _ f7
                        have z7 := cell_of_row _ _ 7 _ _ _ f7
                        have zf : u.frozen? ⟨wo.heap.size, 6, none⟩ = false := frozen_of_row _ _ _ _ _ f7
                        have k7 : ∃ v, u.cell? ⟨w3.heap.size, 7, none⟩ = some v := ⟨_, by rw [cell_of_row _ _ _ _ _ _ f3]; rfl⟩
                        obtain ⟨v7, k7⟩ := k7
                        have kf : u.frozen? ⟨w3.heap.size, 7, none⟩ = false := frozen_of_row _ _ _ _ _ f3
                        -- the three steps
                        have Ka := Keeps.set (X := fun b => b = wo.heap.size) u (p := ⟨wo.heap.size, 6, none⟩) rfl (.bool true)
                        have Kb := Keeps.set (X := fun b => b = w3.heap.size) (u.setCell ⟨wo.heap.size, 6, none⟩ (.bool true)) (p := ⟨w3.heap.size, 7, none⟩) rfl (.bool true)
                        have zu2 : ((u.setCell ⟨wo.heap.size, 6, none⟩ (.bool true)).setCell ⟨w3.heap.size, 7, none⟩ (.bool true)).heap.size = u.heap.size := by rw [set_size13, set_size13]
                        have oR2 := owns_keep (owns_keep f1 Ka (fun b hb e => by
                          obtain rfl : g = b := by simpa [Value.ownBlock] using hb
                          omega)) Kb (fun b hb e => by
                          obtain rfl : g = b := by simpa [Value.ownBlock] using hb
                          omega)
                        have oR3 := owns_row8 oR2 (by rw [qJ_len]; exact HPS.out.2) hlt (⟨xi, be, en, al, rs, ws, true, ou⟩, (ps.getD i pm0).2)
                        have hth := row_there oR2 hlt
                        have ev : cellsT1 (⟨xi, be, en, al, rs, ws, true, ou⟩ : Tk) (ps.getD i pm0).2 = [.int .i64 xi, .int .i64 be, .int .i64 en, .bool al, .slice a1 n1 c1, .slice a2 n2 c2, .bool true, .bool ou] := by simp only [cellsT1, HMy.out.1, HMy.out.2]
                        simp only at oR3
                        rw [ev] at oR3
                        have Kc := Keeps.cells g [.int .i64 xi, .int .i64 be, .int .i64 en, .bool al, .slice a1 n1 c1, .slice a2 n2 c2, .bool true, .bool ou] (i * 8) ((u.setCell ⟨wo.heap.size, 6, none⟩ (.bool true)).setCell ⟨w3.heap.size, 7, none⟩ (.bool true))
                        have zu3 := size_setCells13 g [.int .i64 xi, .int .i64 be, .int .i64 en, .bool al, .slice a1 n1 c1, .slice a2 n2 c2, .bool true, .bool ou] (i * 8) ((u.setCell ⟨wo.heap.size, 6, none⟩ (.bool true)).setCell ⟨w3.heap.size, 7, none⟩ (.bool true))
                        have KK : ∀ b, b < u.heap.size → b ≠ g → b ≠ wo.heap.size → b ≠ w3.heap.size → (((u.setCell ⟨wo.heap.size, 6, none⟩ (.bool true)).setCell ⟨w3.heap.size, 7, none⟩ (.bool true)).setCells g (i * 8) [.int .i64 xi, .int .i64 be, .int .i64 en, .bool al, .slice a1 n1 c1, .slice a2 n2 c2, .bool true, .bool ou]).heap[b]? = u.heap[b]? := fun b hb q1 q2 q3 => (Kc.block b (by omega) q1).trans ((Kb.block b (by rw [set_size13]; exact hb) q3).trans (Ka.block b hb q2))
                        have r13 : (((u.setCell ⟨wo.heap.size, 6, none⟩ (.bool true)).setCell ⟨w3.heap.size, 7, none⟩ (.bool true)).setCells g (i * 8) [.int .i64 xi, .int .i64 be, .int .i64 en, .bool al, .slice a1 n1 c1, .slice a2 n2 c2, .bool true, .bool ou]).heap[wo.heap.size]? = some (.cells #[.int .i64 xi, .int .i64 be, .int .i64 en, .bool al, .slice a1 n1 c1, .slice a2 n2 c2, .bool true, .bool ou] 46) := by
                          rw [Kc.block _ (by omega) (by omega), Kb.block _ (by rw [set_size13]; exact f8) hne1, heap_setCell_same _ _ _ _ _ _ f7]; rfl
                        have r10 : (((u.setCell ⟨wo.heap.size, 6, none⟩ (.bool true)).setCell ⟨w3.heap.size, 7, none⟩ (.bool true)).setCells g (i * 8) [.int .i64 xi, .int .i64 be, .int .i64 en, .bool al, .slice a1 n1 c1, .slice a2 n2 c2, .bool true, .bool ou]).heap[w3.heap.size]? = some (.cells (cellsT1 (tJ true M t0 (i + 1)) m0).toArray 46) := by
                          rw [Kc.block _ (by omega) (by omega), heap_setCell_same _ _ _ (cellsT1 (tJ true M t0 i) m0).toArray 46 _ ((Ka.block _ (by omega) hne2).trans f3), HTe.out, List.setIfInBounds_toArray]
                          rfl
                        have hq2 : (((u.setCell ⟨wo.heap.size, 6, none⟩ (.bool true)).setCell ⟨w3.heap.size, 7, none⟩ (.bool true)).setCells g (i * 8) [.int .i64 xi, .int .i64 be, .int .i64 en, .bool al, .slice a1 n1 c1, .slice a2 n2 c2, .bool true, .bool ou]).cell? ⟨wo.heap.size, 2, none⟩ = some (.int .i64 en) := by rw [cell_of_row _ _ _ _ _ _ r13]; rfl
                        have hq7 : (((u.setCell ⟨wo.heap.size, 6, none⟩ (.bool true)).setCell ⟨w3.heap.size, 7, none⟩ (.bool true)).setCells g (i * 8) [.int .i64 xi, .int .i64 be, .int .i64 en, .bool al, .slice a1 n1 c1, .slice a2 n2 c2, .bool true, .bool ou]).cell? ⟨wo.heap.size, 7, none⟩ = some (.bool ou) := by rw [cell_of_row _ _ _ _ _ _ r13]; rfl
                        have GG1 := hid (show (((u.setCell ⟨wo.heap.size, 6, none⟩ (.bool true)).setCell ⟨w3.heap.size, 7, none⟩ (.bool true)).setCells g (i * 8) [.int .i64 xi, .int .i64 be, .int .i64 en, .bool al, .slice a1 n1 c1, .slice a2 n2 c2, .bool true, .bool ou]).ownsRow w2.heap.size 46 8 (.slice (some ⟨g, 0, none⟩) n c3) n (cP (qJ true M ps (i + 1))) by rw [HQe.out, HPi.out]; exact oR3)
                        have hXall : ∀ b, (b = g ∨ b = wo.heap.size ∨ b = w3.heap.size) → w.heap.size ≤ b := fun b hb => by rcases hb with rfl | rfl | rfl <;> omega
                        have GG2 := hid (show BandsP (((u.setCell ⟨wo.heap.size, 6, none⟩ (.bool true)).setCell ⟨w3.heap.size, 7, none⟩ (.bool true)).setCells g (i * 8) [.int .i64 xi, .int .i64 be, .int .i64 en, .bool al, .slice a1 n1 c1, .slice a2 n2 c2, .bool true, .bool ou]) w2.heap.size hi1 (ps.set k (t0, m0)) by
                          have o1 := f2.keep Ka (fun p hp b hb e => by have := (f2.own p hp).inr hb; omega)
                          have hr10 : ∀ p ∈ ps.set k (t0, m0), ∀ b, blkT p.2 b → b ≠ w3.heap.size := fun p hp b hb e => by
                            have := (f2.own p hp).inr hb
                            exact HP10.out p hp b hb e
                          have o2 := o1.keep Kb (fun p hp b hb e => hr10 p hp b hb e)
                          exact o2.off oR2 Kc)
                        have GG3 := hid r10
                        have GG4 := hid (show BoxS (((u.setCell ⟨wo.heap.size, 6, none⟩ (.bool true)).setCell ⟨w3.heap.size, 7, none⟩ (.bool true)).setCells g (i * 8) [.int .i64 xi, .int .i64 be, .int .i64 en, .bool al, .slice a1 n1 c1, .slice a2 n2 c2, .bool true, .bool ou]) w.heap.size K1 N1 F1 (.slice p1 m1 d1) K2 N2 F2 (.slice p2 m2 d2) from by
                          have e := KK w.heap.size (by omega) (by omega) (by omega) (by omega)
                          have q := f4
                          exact ⟨(World.cell?_of_block (w := u) (a := ⟨w.heap.size, 0, none⟩) e).trans q.c0, (World.cell?_of_block (w := u) (a := ⟨w.heap.size, 1, none⟩) e).trans q.c1, (World.cell?_of_block (w := u) (a := ⟨w.heap.size, 2, none⟩) e).trans q.c2, (World.cell?_of_block (w := u) (a := ⟨w.heap.size, 3, none⟩) e).trans q.c3, (World.cell?_of_block (w := u) (a := ⟨w.heap.size, 4, none⟩) e).trans q.c4, (World.cell?_of_block (w := u) (a := ⟨w.heap.size, 5, none⟩) e).trans q.c5, (World.cell?_of_block (w := u) (a := ⟨w.heap.size, 6, none⟩) e).trans q.c6, (World.cell?_of_block (w := u) (a := ⟨w.heap.size, 7, none⟩) e).trans q.c7⟩)
                        have GG5 := hid (show Below w.heap.size w (((u.setCell ⟨wo.heap.size, 6, none⟩ (.bool true)).setCell ⟨w3.heap.size, 7, none⟩ (.bool true)).setCells g (i * 8) [.int .i64 xi, .int .i64 be, .int .i64 en, .bool al, .slice a1 n1 c1, .slice a2 n2 c2, .bool true, .bool ou]) from Keeps.below ((f5.setCell (p := ⟨wo.heap.size, 6, none⟩) (by show w.heap.size ≤ wo.heap.size; omega) (.bool true)).setCell (p := ⟨w3.heap.size, 7, none⟩) (by show w.heap.size ≤ w3.heap.size; omega) (.bool true)) Kc (fun b hb => by subst hb; omega) (by omega))
                        have GG6 : W.heap.size ≤ (((u.setCell ⟨wo.heap.size, 6, none⟩ (.bool true)).setCell ⟨w3.heap.size, 7, none⟩ (.bool true)).setCells g (i * 8) [.int .i64 xi, .int .i64 be, .int .i64 en, .bool al, .slice a1 n1 c1, .slice a2 n2 c2, .bool true, .bool ou]).heap.size := by omega
                        have HTh := hid hth
                        clear f1 f2 f3 f4 f5 f6 f7 f8 Ka Kb Kc KK oR2 oR3 hth ev r13 r10 hXall hgw
                        go_wp2_with (refine wpList_store_mid rfl 46 (.tmp 104) (.tmp 103) rfl g (i * 8) #[.int .i64 xi, .int .i64 be, .int .i64 en, .bool al, .slice a1 n1 c1, .slice a2 n2 c2, .bool true, .bool ou] rfl rfl ?th ?si ?on (stopG ?_))
                        case th => exact HTh.out
                        case si => first | exact size_tk | simpa using size_tk
                        case on => simp [Value.oneCell']
                        unfold StopG
                        try rw [show (#[.int .i64 xi, .int .i64 be, .int .i64 en, .bool al, .slice a1 n1 c1, .slice a2 n2 c2, .bool true, .bool ou] : Array Value).toList = [.int .i64 xi, .int .i64 be, .int .i64 en, .bool al, .slice a1 n1 c1, .slice a2 n2 c2, .bool true, .bool ou] from rfl]
                        clear z0 z1 z2 z3 z4 z5 z6 z7 zf k7 kf
                        generalize ((u.setCell ⟨wo.heap.size, 6, none⟩ (.bool true)).setCell ⟨w3.heap.size, 7, none⟩ (.bool true)).setCells g (i * 8) [.int .i64 xi, .int .i64 be, .int .i64 en, .bool al, .slice a1 n1 c1, .slice a2 n2 c2, .bool true, .bool ou] = u3 at *
                        by_cases hen : 0 < en
                        · cases ou with
                          | true =>
                            have HCe := hid (show cdJ true M ts (i + 1) = 2 by rw [HCs.out, decide_eq_true hen]; rfl)
                            go_wp2_with fail
                            go_roundw
                            case rel => exact ⟨i + 1, by omega, by go_num, by rw [HCe.out], GG1, GG2, GG3, GG4, GG5, GG6⟩
                            case measure => simp [intOf]; omega
                          | false =>
                            have HCe := hid (show cdJ true M ts (i + 1) = cdJ true M ts i by rw [HCs.out, Bool.and_false]; rfl)
                            go_wp2_with fail
                            go_roundw
                            case rel => exact ⟨i + 1, by omega, by go_num, by rw [HCe.out], GG1, GG2, GG3, GG4, GG5, GG6⟩
                            case measure => simp [intOf]; omega
                        · have HCe := hid (show cdJ true M ts (i + 1) = cdJ true M ts i by rw [HCs.out, decide_eq_false hen]; rfl)
                          go_wp2_with fail
                          go_roundw
                          case rel => exact ⟨i + 1, by omega, by go_num, by rw [HCe.out], GG1, GG2, GG3, GG4, GG5, GG6⟩
                          case measure => simp [intOf]; omega
            · have hlt' : ¬ (i : Int) < (n : Int) := by omega
              obtain rfl : i = n := by omega
              have hps := HPS.out
              have hgw := HGL.out
              obtain ⟨tf, htf⟩ : ∃ tf, tJ true M t0 i = tf := ⟨_, rfl⟩
              have HES2 := hid (show readS ts x (⟨K1, N1, F1, Z1⟩, ⟨K2, N2, F2, Z2⟩) = ((qJ true M ps i).set k (tf, m0)).map (·.1) by rw [HES.out, HL.out, List.map_set, qJ_map, hps.1, ← htf]; rfl)
              have HEC2 := hid (show readC ts x (⟨K1, N1, F1, Z1⟩, ⟨K2, N2, F2, Z2⟩) = if (tf.inn && tf.out) = true then 2 else cdJ true M ts i by rw [HEC.out]; unfold lastC; rw [HL.out, htf])
              have hBf := qJ_last true M (by omega) i (by omega) HBP.out
              rw [htf] at hBf
              have ht10 := HT.out
              rw [htf] at ht10
              obtain ⟨xf, bf, ef, af, rf, wf, inf, ouf⟩ := tf
              obtain ⟨m0y, m0X, m0z, m0Y⟩ := m0
              obtain ⟨s1, s2, s3, s4, s5, s6, es1, es2⟩ := HM0s.out
              simp only at es1 es2
              subst es1 es2
              have z0 : wo.cell? ⟨w3.heap.size, 0, none⟩ = some (.int .i64 xf) := by rw [cell_of_row _ _ _ _ _ _ ht10]; rfl
              have z1 : wo.cell? ⟨w3.heap.size, 1, none⟩ = some (.int .i64 bf) := by rw [cell_of_row _ _ _ _ _ _ ht10]; rfl
              have z2 : wo.cell? ⟨w3.heap.size, 2, none⟩ = some (.int .i64 ef) := by rw [cell_of_row _ _ _ _ _ _ ht10]; rfl
              have z3 : wo.cell? ⟨w3.heap.size, 3, none⟩ = some (.bool af) := by rw [cell_of_row _ _ _ _ _ _ ht10]; rfl
              have z4 : wo.cell? ⟨w3.heap.size, 4, none⟩ = some (.slice s1 s2 s3) := by rw [cell_of_row _ _ _ _ _ _ ht10]; rfl
              have z5 : wo.cell? ⟨w3.heap.size, 5, none⟩ = some (.slice s4 s5 s6) := by rw [cell_of_row _ _ _ _ _ _ ht10]; rfl
              have z6 : wo.cell? ⟨w3.heap.size, 6, none⟩ = some (.bool inf) := by rw [cell_of_row _ _ _ _ _ _ ht10]; rfl
              have z7 : wo.cell? ⟨w3.heap.size, 7, none⟩ = some (.bool ouf) := by rw [cell_of_row _ _ _ _ _ _ ht10]; rfl
              have oF := owns_row8 HR.out (by rw [qJ_len]; exact hps.2) (i := k) (by have := HKN.out; have := HL.out; omega) (⟨xf, bf, ef, af, rf, wf, inf, ouf⟩, ⟨.slice s1 s2 s3, m0X, .slice s4 s5 s6, m0Y⟩)
              have hth := row_there HR.out (i := k) (by have := HKN.out; have := HL.out; omega)
              have Kc := Keeps.cells g [.int .i64 xf, .int .i64 bf, .int .i64 ef, .bool af, .slice s1 s2 s3, .slice s4 s5 s6, .bool inf, .bool ouf] (k * 8) wo
              have hOw := (hBf.off HR.out Kc).own_t (v := (.slice (some ⟨g, 0, none⟩) i c3)) (by rw [List.length_set, qJ_len, hps.2]; exact oF) (fun g' hg' => by
                obtain rfl : g = g' := by simpa [Value.ownBlock] using hg'
                omega)
              have HF := hid hOw.rd
              have HBF := hid (Keeps.below HB.out Kc (fun b hb => by subst hb; omega) HB.out.size)
              have k6 : (wo.setCells g (k * 8) [.int .i64 xf, .int .i64 bf, .int .i64 ef, .bool af, .slice s1 s2 s3, .slice s4 s5 s6, .bool inf, .bool ouf]).cell? ⟨w3.heap.size, 6, none⟩ = some (.bool inf) := (World.cell?_of_block (w := wo) (a := ⟨w3.heap.size, 6, none⟩) (Kc.block w3.heap.size (by omega) (by omega))).trans z6
              have k7 : (wo.setCells g (k * 8) [.int .i64 xf, .int .i64 bf, .int .i64 ef, .bool af, .slice s1 s2 s3, .slice s4 s5 s6, .bool inf, .bool ouf]).cell? ⟨w3.heap.size, 7, none⟩ = some (.bool ouf) := (World.cell?_of_block (w := wo) (a := ⟨w3.heap.size, 7, none⟩) (Kc.block w3.heap.size (by omega) (by omega))).trans z7
              have HTh := hid hth
              have HLs := hid (show (((qJ true M ps i).set k (⟨xf, bf, ef, af, rf, wf, inf, ouf⟩, ⟨.slice s1 s2 s3, m0X, .slice s4 s5 s6, m0Y⟩)).map (·.1)).length = i by rw [List.length_map, List.length_set, qJ_len]; exact hps.2)
              have hkz : (0 : Int) ≤ (k : Int) := by omega
              have hkl : (k : Int) < (i : Int) := by have := HKN.out; have := HL.out; omega
              generalize cdJ true M ts i = CD at *
              clear hOw Kc hth oF ht10 hBf htf hps
              go_wp2_with (refine wpList_store_mid rfl 46 (.tmp 115) (.tmp 114) rfl g (k * 8) #[.int .i64 xf, .int .i64 bf, .int .i64 ef, .bool af, .slice s1 s2 s3, .slice s4 s5 s6, .bool inf, .bool ouf] rfl rfl ?th ?si ?on (stopG ?_))
              case th => exact HTh.out
              case si => first | exact size_tk | simpa using size_tk
              case on => simp [Value.oneCell']
              unfold StopG
              try rw [show (#[.int .i64 xf, .int .i64 bf, .int .i64 ef, .bool af, .slice s1 s2 s3, .slice s4 s5 s6, .bool inf, .bool ouf] : Array Value).toList = [.int .i64 xf, .int .i64 bf, .int .i64 ef, .bool af, .slice s1 s2 s3, .slice s4 s5 s6, .bool inf, .bool ouf] from rfl]
              clear z0 z1 z2 z3 z4 z5 z6 z7
              generalize wo.setCells g (k * 8) [.int .i64 xf, .int .i64 bf, .int .i64 ef, .bool af, .slice s1 s2 s3, .slice s4 s5 s6, .bool inf, .bool ouf] = u3 at *
              cases inf with
              | true =>
                cases ouf with
                | true =>
                  have HCe := hid (show readC ts x (⟨K1, N1, F1, Z1⟩, ⟨K2, N2, F2, Z2⟩) = 2 by rw [HEC2.out]; rfl)
                  go_wp2_with fail
                  go_ret2
                  refine ⟨?_, HBF.out⟩
                  rw [HCe.out, HES2.out]
                  exact ⟨_, c3, by rw [HLs.out]; rfl, HF.out⟩
                | false =>
                  have HCe := hid (show readC ts x (⟨K1, N1, F1, Z1⟩, ⟨K2, N2, F2, Z2⟩) = CD by rw [HEC2.out]; rfl)
                  go_wp2_with fail
                  go_ret2
                  refine ⟨?_, HBF.out⟩
                  rw [HCe.out, HES2.out]
                  exact ⟨_, c3, by rw [HLs.out]; rfl, HF.out⟩
              | false =>
                have HCe := hid (show readC ts x (⟨K1, N1, F1, Z1⟩, ⟨K2, N2, F2, Z2⟩) = CD by rw [HEC2.out]; rfl)
                go_wp2_with fail
                go_ret2
                refine ⟨?_, HBF.out⟩
                rw [HCe.out, HES2.out]
                exact ⟨_, c3, by rw [HLs.out]; rfl, HF.out⟩

        | false =>
          have bD := (Below.refl (w3.alloc (.cells #[.int .i64 xk, .int .i64 bk, .int .i64 ek, .bool false, .slice u1 l1 e1, .slice u2 l2 e2, .bool ik, .bool ok] 46)).heap.size (w3.alloc (.cells #[.int .i64 xk, .int .i64 bk, .int .i64 ek, .bool false, .slice u1 l1 e1, .slice u2 l2 e2, .bool ik, .bool ok] 46))).drew
          have HS0 := hid (show (fun V => V.cell? ⟨w3.heap.size, 4, none⟩ = some (.slice u1 l1 e1) ∧ BoxS V w.heap.size K1 N1 F1 (.slice p1 m1 d1) K2 N2 F2 (.slice p2 m2 d2)) (w3.alloc (.cells #[.int .i64 xk, .int .i64 bk, .int .i64 ek, .bool false, .slice u1 l1 e1, .slice u2 l2 e2, .bool ik, .bool ok] 46)).drew from ⟨by rw [show (w3.alloc (.cells #[.int .i64 xk, .int .i64 bk, .int .i64 ek, .bool false, .slice u1 l1 e1, .slice u2 l2 e2, .bool ik, .bool ok] 46)).drew.cell? ⟨w3.heap.size, 4, none⟩ = (w3.alloc (.cells #[.int .i64 xk, .int .i64 bk, .int .i64 ek, .bool false, .slice u1 l1 e1, .slice u2 l2 e2, .bool ik, .bool ok] 46)).cell? ⟨w3.heap.size, 4, none⟩ from rfl, cell_of_row _ _ _ _ _ _ HT4.out]; rfl, HX4.out.below bD (Nat.le_refl _)⟩)
          have HB0 := hid (HB4.out.trans (bD.mono (by have := HB4.out.size; omega)))
          have HT0 := hid (show (w3.alloc (.cells #[.int .i64 xk, .int .i64 bk, .int .i64 ek, .bool false, .slice u1 l1 e1, .slice u2 l2 e2, .bool ik, .bool ok] 46)).drew.heap[w3.heap.size]? = some (.cells #[.int .i64 xk, .int .i64 bk, .int .i64 ek, .bool false, .slice u1 l1 e1, .slice u2 l2 e2, .bool ik, .bool ok] 46) from HT4.out)
          have HR0 := hid (owns_below bD (Nat.le_refl _) HR4.out)
          have HBP0 := hid (HBP4.out.keep (Keeps.of_below (X := fun _ => False) bD) (fun _ _ _ _ x => x.elim))
          have HZ0 := hid (show (w3.alloc (.cells #[.int .i64 xk, .int .i64 bk, .int .i64 ek, .bool false, .slice u1 l1 e1, .slice u2 l2 e2, .bool ik, .bool ok] 46)).drew.heap.size = w3.heap.size + 1 from HZ4.out)
          go_wp2
          clear y0 y1 y2 y3 y4 y5 y6 y7 bD HR4 HBP4 HT4 HX4 HB4 HZ4
          refine region_K 7 (fun V => V.cell? ⟨w3.heap.size, 4, none⟩ = some (.slice u1 l1 e1) ∧ BoxS V w.heap.size K1 N1 F1 (.slice p1 m1 d1) K2 N2 F2 (.slice p2 m2 d2)) (by kernel_rfl) ?_ (fun hHeld => ?_)
          · exact HS0.out
          generalize (w3.alloc (.cells #[.int .i64 xk, .int .i64 bk, .int .i64 ek, .bool false, .slice u1 l1 e1, .slice u2 l2 e2, .bool ik, .bool ok] 46)).drew = v0 at *
          refine anyK_take (i := 0) (v := ?v0_51) rfl (by kernel_rfl) (by kernel_rfl) (by kernel_rfl) (by kernel_rfl) (fun _ _ _ h => h) (by rfl) hHeld ?hy0_51 (some 40) (by rfl) ?rest0_51
          case hy0_51 => (intro W hSw; obtain ⟨x0, x1, x2, x3, x4, x5, x6, x7, x8⟩ := hSw; go_simp; (try with_reducible rfl))
          try simp only [Act.put, List.setIfInBounds_toArray, List.set_cons_succ, List.set_cons_zero]
          refine anyK_take (i := 1) (v := ?v1_52) rfl (by kernel_rfl) (by kernel_rfl) (by kernel_rfl) (by kernel_rfl) (fun _ _ _ h => h) (by rfl) hHeld ?hy1_52 (some 41) (by rfl) ?rest1_52
          case hy1_52 => (intro W hSw; obtain ⟨x0, x1, x2, x3, x4, x5, x6, x7, x8⟩ := hSw; go_simp; (try with_reducible rfl))
          try simp only [Act.put, List.setIfInBounds_toArray, List.set_cons_succ, List.set_cons_zero]
          refine anyK_take (i := 2) (v := ?v2_53) rfl (by kernel_rfl) (by kernel_rfl) (by kernel_rfl) (by kernel_rfl) (fun _ _ _ h => h) (by rfl) hHeld ?hy2_53 (some 42) (by rfl) ?rest2_53
          case hy2_53 => (intro W hSw; obtain ⟨x0, x1, x2, x3, x4, x5, x6, x7, x8⟩ := hSw; go_simp; (try with_reducible rfl))
          try simp only [Act.put, List.setIfInBounds_toArray, List.set_cons_succ, List.set_cons_zero]
          refine anyK_step (i := 3) (by kernel_rfl) rfl (fun KP hK => ?_)
          go_simp
          have b1 := Below.alloc1 v0 (.cells #[.int .i64 K1, .int .i64 N1, .float .f64 F1, .slice p1 m1 d1, .int .i64 K2, .int .i64 N2, .float .f64 F2, .slice p2 m2 d2] 32)
          have HS1 := hid (show (fun V => V.cell? ⟨w3.heap.size, 4, none⟩ = some (.slice u1 l1 e1) ∧ BoxS V w.heap.size K1 N1 F1 (.slice p1 m1 d1) K2 N2 F2 (.slice p2 m2 d2)) (v0.alloc (.cells #[.int .i64 K1, .int .i64 N1, .float .f64 F1, .slice p1 m1 d1, .int .i64 K2, .int .i64 N2, .float .f64 F2, .slice p2 m2 d2] 32)) from ⟨(b1.cell (p := ⟨w3.heap.size, 4, none⟩) (World.block_lt_of_cell? _ _ HS0.out.1)).trans HS0.out.1, HS0.out.2.below b1 (Nat.le_refl _)⟩)
          have HB1 := hid (HB0.out.trans (b1.mono (by have := HB0.out.size; omega)))
          have HT1 := hid ((b1.block w3.heap.size (by have := HZ0.out; omega)).trans HT0.out)
          have HR1 := hid (owns_below b1 (Nat.le_refl _) HR0.out)
          have HBP1 := hid (HBP0.out.keep (Keeps.of_below (X := fun _ => False) b1) (fun _ _ _ _ x => x.elim))
          have hN1 := heap_alloc_new v0 (.cells #[.int .i64 K1, .int .i64 N1, .float .f64 F1, .slice p1 m1 d1, .int .i64 K2, .int .i64 N2, .float .f64 F2, .slice p2 m2 d2] 32)
          have HZ1 := hid (show (v0.alloc (.cells #[.int .i64 K1, .int .i64 N1, .float .f64 F1, .slice p1 m1 d1, .int .i64 K2, .int .i64 N2, .float .f64 F2, .slice p2 m2 d2] 32)).heap.size = w3.heap.size + 2 by rw [alloc_size]; have := HZ0.out; omega)
          have hbx := BoxS.row hN1
          have HRd := hid (show ReadsM (v0.alloc (.cells #[.int .i64 K1, .int .i64 N1, .float .f64 F1, .slice p1 m1 d1, .int .i64 K2, .int .i64 N2, .float .f64 F2, .slice p2 m2 d2] 32)) (some ⟨v0.heap.size, 0, none⟩) [⟨K1, N1, F1, Z1⟩, ⟨K2, N2, F2, Z2⟩] from ⟨.inr ⟨v0.heap.size, 0, rfl, fun i hi => by
            have r1 := HQ1.out.below HB1.out (Nat.le_refl _)
            have r2 := HQ2.out.below HB1.out (Nat.le_refl _)
            rcases i with _ | _ | i
            · exact ⟨.slice p1 m1 d1, ⟨hbx.c0, hbx.c1, hbx.c2, hbx.c3⟩, ⟨p1, d1, by rw [show ([(⟨K1, N1, F1, Z1⟩ : Im), ⟨K2, N2, F2, Z2⟩].getD 0 im0).Z = Z1 from rfl, r1.len], by rw [show ([(⟨K1, N1, F1, Z1⟩ : Im), ⟨K2, N2, F2, Z2⟩].getD 0 im0).Z = Z1 from rfl, r1.len]; exact r1, hnl.1, by rw [show ([(⟨K1, N1, F1, Z1⟩ : Im), ⟨K2, N2, F2, Z2⟩].getD 0 im0).Z = Z1 from rfl, r1.len]; unfold maxLen; omega⟩, hf1⟩
            · exact ⟨.slice p2 m2 d2, ⟨hbx.c4, hbx.c5, hbx.c6, hbx.c7⟩, ⟨p2, d2, by rw [show ([(⟨K1, N1, F1, Z1⟩ : Im), ⟨K2, N2, F2, Z2⟩].getD (0 + 1) im0).Z = Z2 from rfl, r2.len], by rw [show ([(⟨K1, N1, F1, Z1⟩ : Im), ⟨K2, N2, F2, Z2⟩].getD (0 + 1) im0).Z = Z2 from rfl, r2.len]; exact r2, hnl.2, by rw [show ([(⟨K1, N1, F1, Z1⟩ : Im), ⟨K2, N2, F2, Z2⟩].getD (0 + 1) im0).Z = Z2 from rfl, r2.len]; unfold maxLen; omega⟩, hf2⟩
            · simp only [List.length_cons, List.length_nil] at hi; omega⟩⟩)
          clear b1 hN1 hbx hHeld HS0 HB0 HT0 HR0 HBP0
          refine hK.out _ _ HS1.out (fun hHeld => ?_)
          clear hK KP
          try simp only [Act.put]
          try simp only [List.setIfInBounds_toArray]
          try simp only [List.set_cons_succ, List.set_cons_zero]
          obtain ⟨v1, hv1⟩ : ∃ v1, v0.alloc (.cells #[.int .i64 K1, .int .i64 N1, .float .f64 F1, .slice p1 m1 d1, .int .i64 K2, .int .i64 N2, .float .f64 F2, .slice p2 m2 d2] 32) = v1 := ⟨_, rfl⟩
          rw [hv1] at HS1 HB1 HT1 HR1 HBP1 HZ1 HRd hHeld ⊢
          clear hv1
          refine anyK_step (i := 4) (by kernel_rfl) rfl (fun KP hK => ?_)
          go_simp
          refine (spec_l13spans 1 HRd.out rfl (by omega) (fun j => by
            rcases j with _ | _ | j
            · show Z1.length ≤ 2097152; rw [HQ1.out.len]; exact hz1
            · show Z2.length ≤ 2097152; rw [HQ2.out.len]; exact hz2
            · show (([] : List Im).getD j im0).Z.length ≤ 2097152; simp [im0])).mono ?_
          rintro e w5 ⟨v, rfl, oM, b5⟩
          obtain ⟨av, cv0, e9⟩ := oM.slice
          subst e9
          obtain ⟨xs, oV, oB⟩ := oM.own
          have hxl : xs.length = 2 := by rw [oB.len]; rfl
          obtain ⟨s1, s2, rfl⟩ : ∃ s1 s2, xs = [s1, s2] := by
            rcases xs with _ | ⟨s1, _ | ⟨s2, _ | ⟨s3, xs⟩⟩⟩
            · simp at hxl
            · simp at hxl
            · exact ⟨s1, s2, rfl⟩
            · simp at hxl
          obtain ⟨pv, cv, e9⟩ := own_sl (oB.own 0)
          obtain ⟨pv2, cv2, e10⟩ := own_sl (oB.own 1)
          have e9' : s1 = .slice pv m1 cv := by rw [← HQ1.out.len]; exact e9
          have e10' : s2 = .slice pv2 m2 cv2 := by rw [← HQ2.out.len]; exact e10
          subst e9' e10'
          obtain ⟨gv, rfl⟩ : ∃ gv, av = some ⟨gv, 0, none⟩ := by
            rcases oV.2 with ⟨e, h0⟩ | ⟨gv, cap', cur, e, _⟩
            · cases h0
            · cases e; exact ⟨gv, rfl⟩
          have HNw := hid (show ∀ j u, [.int .i64 K1, .int .i64 N1, .float .f64 F1, .slice pv m1 cv, .int .i64 K2, .int .i64 N2, .float .f64 F2, .slice pv2 m2 cv2][j]? = some u → w5.cell? ((⟨gv, 0, none⟩ : Addr).add j) = some u from fun j u hu => by
            rw [Addr.add_mid, Nat.zero_add]
            have hj : j < 8 := by have := (List.getElem?_eq_some_iff.1 hu).1; simpa using this
            exact (oV.cellAt j (by omega)).trans hu)
          have HS2 := hid (show (fun V => V.cell? ⟨w3.heap.size, 4, none⟩ = some (.slice u1 l1 e1) ∧ BoxS V w.heap.size K1 N1 F1 (.slice p1 m1 d1) K2 N2 F2 (.slice p2 m2 d2)) w5 from ⟨(b5.cell (p := ⟨w3.heap.size, 4, none⟩) (World.block_lt_of_cell? _ _ HS1.out.1)).trans HS1.out.1, HS1.out.2.below b5 (Nat.le_refl _)⟩)
          have HB5 := hid (HB1.out.trans (b5.mono (by have := HB1.out.size; omega)))
          have HT5 := hid ((b5.block w3.heap.size (by have := HZ1.out; omega)).trans HT1.out)
          have HR5 := hid (owns_below b5 (Nat.le_refl _) HR1.out)
          have HBP5 := hid (HBP1.out.keep (Keeps.of_below (X := fun _ => False) b5) (fun _ _ _ _ x => x.elim))
          have HBd2 := hid oB
          have HZ5 := hid (And.intro HZ1.out b5.size)
          clear oM oV oB hxl e9 e10 b5 HS1 HB1 HT1 HR1 HBP1 HRd
          go_wp2_with fail
          clear hHeld
          refine hK.out _ _ HS2.out (fun hHeld => ?_)
          clear hK KP
          try simp only [Act.put]
          try simp only [List.setIfInBounds_toArray]
          try simp only [List.set_cons_succ, List.set_cons_zero]
          have hown0 := HBP5.out.own _ (List.getElem_mem hkp)
          rw [HPk.out] at hown0
          have hrd := hown0.rd
          simp only [HL12.out.1] at hrd
          have HRow := hid hrd.row
          obtain ⟨i0, hi0, hz0, hz1', hz2'⟩ := info_parts Try.infoSp
          refine anyK_step (i := 5) (by kernel_rfl) rfl (fun KP hK => ?_)
          refine step_append_at rfl _ _ 43 rfl w2.heap.size 32 i0 (.agg #[.int .i64 0, .int .i64 0, .float .f64 0, .slice none 0 0, .int .i64 0, .int .i64 0, .float .f64 0, .slice none 0 0]) 8 96 Try.underlying43 hi0 hz0 hz1' hz2' rfl (by decide) _ l1 _ rfl HRow.out ⟨gv, 0, none⟩ 1 cv0 [.int .i64 K1, .int .i64 N1, .float .f64 F1, .slice pv m1 cv, .int .i64 K2, .int .i64 N2, .float .f64 F2, .slice pv2 m2 cv2] rfl rfl HNw.out ?g2 (by have := HTr.out.1; unfold maxLen; omega) (by have := HTr.out.1; omega) (by have := HZ5.out; omega) ?_
          case g2 => intro u hu; simp only [List.mem_cons, List.not_mem_nil, or_false] at hu; rcases hu with rfl | rfl | rfl | rfl | rfl | rfl | rfl | rfl <;> rfl
          intro a8 c8 w8 o8 g8 hat8
          have hzz := HZ5.out
          have hX8 := OwnX.push hrd (by omega) (by omega) (by decide) (fs := [⟨K1, N1, F1, Z1⟩, ⟨K2, N2, F2, Z2⟩]) (ys := [.slice pv m1 cv, .slice pv2 m2 cv2]) (HBd2.out.mono (by omega) (by omega)) rfl (fun i => by
              cases i with
              | zero => exact hf1
              | succ i =>
                cases i with
                | zero => exact hf2
                | succ i => simp [im0]) o8 g8
          have K8 : Keeps (fun b => (Value.slice u1 l1 e1).ownBlock = some b) w5 w8 := Keeps.grown g8 (fun b e => e)
          have hyb : ∀ b, (Value.slice u1 l1 e1).ownBlock = some b → blkT ps[k].2 b := fun b hb => by rw [HPk.out]; exact .inl (.inl hb)
          have hyr : ∀ b, (Value.slice u1 l1 e1).ownBlock = some b → w2.heap.size ≤ b ∧ b < w3.heap.size := fun b hb => hown0.inr (.inl (.inl hb))
          have hT8 : OwnT1 w8 w2.heap.size w8.heap.size ⟨.slice a8 (l1 + 1) c8, mX ++ [.slice pv m1 cv, .slice pv2 m2 cv2], .slice u2 l2 e2, mY⟩ ⟨xk, bk, ek, false, rk ++ [(⟨K1, N1, F1, Z1⟩, ⟨K2, N2, F2, Z2⟩)], wk, ik, ok⟩ := by
            refine ⟨?_, ?_, fun b hb hc => ?_⟩
            · simp only [List.length_append, List.length_singleton, HL12.out.1, fl2_app]
              exact hX8
            · exact (hown0.wr.keep K8 (fun b hb hx => hown0.rw_apart (.inl hx) hb)).mono (Nat.le_refl _) (by have := g8.size; omega)
            · obtain ⟨x, hx, hxb⟩ := hb
              rcases List.mem_append.1 hx with q | q
              · exact hown0.apart b ⟨x, q, hxb⟩ hc
              · have h1 := blkL_ge HBd2.out ⟨x, q, hxb⟩
                have h2 := hown0.wr.inr (.inr hc)
                omega
          have hB8 := HBP5.out.repl hkp (hi1 := w8.heap.size) (by have := g8.size; omega) K8 (fun b hb => .inl (hyb b hb)) (p' := (⟨xk, bk, ek, false, rk ++ [(⟨K1, N1, F1, Z1⟩, ⟨K2, N2, F2, Z2⟩)], wk, ik, ok⟩, ⟨.slice a8 (l1 + 1) c8, mX ++ [.slice pv m1 cv, .slice pv2 m2 cv2], .slice u2 l2 e2, mY⟩)) hT8 (fun b hb => by
            rw [HPk.out]
            rcases hb with (q | ⟨x, hx, hxb⟩) | q
            · rcases hat8 with e | e
              · rw [e] at q; exact .inl (.inl (.inl q))
              · rw [e] at q
                obtain rfl : w5.heap.size = b := by simpa using q
                exact .inr (by omega)
            · rcases List.mem_append.1 hx with q | q
              · exact .inl (.inl (.inr ⟨x, q, hxb⟩))
              · have h1 := blkL_ge HBd2.out ⟨x, q, hxb⟩
                exact .inr (by omega)
            · exact .inl (.inr q))
          have hP8 : ∀ p ∈ ps.set k (⟨xk, bk, ek, false, rk ++ [(⟨K1, N1, F1, Z1⟩, ⟨K2, N2, F2, Z2⟩)], wk, ik, ok⟩, ⟨.slice a8 (l1 + 1) c8, mX ++ [.slice pv m1 cv, .slice pv2 m2 cv2], .slice u2 l2 e2, mY⟩), ∀ b, blkT p.2 b → b = w3.heap.size → False := fun p hp b hb e => by
            rcases List.mem_or_eq_of_mem_set hp with q | rfl
            · have := (HBP5.out.own p q).inr hb
              omega
            · rcases hb with (q | ⟨x, hx, hxb⟩) | q
              · rcases hat8 with e' | e'
                · rw [e'] at q; have := hyr b q; omega
                · rw [e'] at q
                  obtain rfl : w5.heap.size = b := by simpa using q
                  omega
              · rcases List.mem_append.1 hx with q | q
                · have := hown0.inr (.inl (.inr ⟨x, q, hxb⟩)); omega
                · have h1 := blkL_ge HBd2.out ⟨x, q, hxb⟩
                  omega
              · have := hown0.inr (.inr q); omega
          have hgy : ∀ b, (Value.slice u1 l1 e1).ownBlock = some b → ¬ b = g := fun b hb e => by
            subst e
            exact hown0.off HR5.out (by decide) (by decide) (by decide) (.inl (.inl hb)) rfl
          have oR8 := owns_keep HR5.out K8 (fun b hb hx => hgy b hx (by
            obtain rfl : g = b := by simpa [Value.ownBlock] using hb
            rfl))
          have hT8r := (K8.block w3.heap.size (by omega) (fun q => by have := hyr _ q; omega)).trans HT5.out
          have hX8w : BoxS w8 w.heap.size K1 N1 F1 (.slice p1 m1 d1) K2 N2 F2 (.slice p2 m2 d2) := by
            have e := K8.block w.heap.size (by omega) (fun q => by have := hyr _ q; omega)
            have q := HS2.out.2
            exact ⟨(World.cell?_of_block (w := w5) (a := ⟨w.heap.size, 0, none⟩) e).trans q.c0, (World.cell?_of_block (w := w5) (a := ⟨w.heap.size, 1, none⟩) e).trans q.c1, (World.cell?_of_block (w := w5) (a := ⟨w.heap.size, 2, none⟩) e).trans q.c2, (World.cell?_of_block (w := w5) (a := ⟨w.heap.size, 3, none⟩) e).trans q.c3, (World.cell?_of_block (w := w5) (a := ⟨w.heap.size, 4, none⟩) e).trans q.c4, (World.cell?_of_block (w := w5) (a := ⟨w.heap.size, 5, none⟩) e).trans q.c5, (World.cell?_of_block (w := w5) (a := ⟨w.heap.size, 6, none⟩) e).trans q.c6, (World.cell?_of_block (w := w5) (a := ⟨w.heap.size, 7, none⟩) e).trans q.c7⟩
          have HB8 := hid (Keeps.below HB5.out K8 (fun b hb => by have := hyr b hb; omega) (by have := HB5.out.size; omega))
          have HS8 := hid (show (fun V => V.cell? ⟨w3.heap.size, 4, none⟩ = some (.slice u1 l1 e1) ∧ BoxS V w.heap.size K1 N1 F1 (.slice p1 m1 d1) K2 N2 F2 (.slice p2 m2 d2)) w8 from ⟨by rw [cell_of_row _ _ _ _ _ _ hT8r]; rfl, hX8w⟩)
          have HFr := hid (show w8.frozen? ⟨w3.heap.size, 4, none⟩ = false from frozen_of_row _ _ _ _ _ hT8r)
          have HBP8 := hid hB8
          have HP8 := hid hP8
          have HR8 := hid oR8
          have HT8 := hid hT8r
          have HX8 := hid hX8w
          have hz8 : w5.heap.size ≤ w8.heap.size := g8.size
          have hz5 : w3.heap.size + 2 ≤ w5.heap.size := by omega
          have HWr8 := hid hT8.wr
          clear hzz hX8 K8 hyb hyr hT8 hB8 hP8 hgy oR8 hT8r hX8w o8 g8 hat8 hown0 hrd HRow hHeld
          refine hK.out _ _ HS8.out (fun hHeld => ?_)
          clear hK KP
          try simp only [Act.put]
          try simp only [List.setIfInBounds_toArray]
          try simp only [List.set_cons_succ, List.set_cons_zero]
          refine anyK_step (i := 6) (by kernel_rfl) rfl (fun KP hK => ?_)
          go_simp
          clear hHeld
          refine hK.out _ _ HS8.out (fun hHeld => ?_)
          clear hK KP
          try simp only [Act.put]
          try simp only [List.setIfInBounds_toArray]
          try simp only [List.set_cons_succ, List.set_cons_zero]
          have kc := HS8.out.1
          have kf := HFr.out
          refine anyK_last (by kernel_rfl) rfl (fun KP hK => ?_)
          go_simp
          refine hK.out _ _ ?_
          clear hK KP hHeld kc kf
          try simp only [Act.put]
          refine anyK_done (by kernel_rfl) ?_ _
          have K9 := Keeps.set (X := fun b => b = w3.heap.size) w8 (p := ⟨w3.heap.size, 4, none⟩) rfl (.slice a8 (l1 + 1) c8)
          have z9 := set_size13 w8 ⟨w3.heap.size, 4, none⟩ (.slice a8 (l1 + 1) c8)
          have r9 : (w8.setCell ⟨w3.heap.size, 4, none⟩ (.slice a8 (l1 + 1) c8)).heap[w3.heap.size]? = some (.cells #[.int .i64 xk, .int .i64 bk, .int .i64 ek, .bool false, .slice a8 (l1 + 1) c8, .slice u2 l2 e2, .bool ik, .bool ok] 46) := by rw [heap_setCell_same _ _ _ _ _ _ HT8.out]; rfl
          have k3 := cell_of_row _ _ 3 _ _ _ r9
          have k4 := cell_of_row _ _ 4 _ _ _ r9
          have kf3 : (w8.setCell ⟨w3.heap.size, 4, none⟩ (.slice a8 (l1 + 1) c8)).frozen? ⟨w3.heap.size, 3, none⟩ = false := frozen_of_row _ _ _ _ _ r9
          have kf4 : (w8.setCell ⟨w3.heap.size, 4, none⟩ (.slice a8 (l1 + 1) c8)).frozen? ⟨w3.heap.size, 4, none⟩ = false := frozen_of_row _ _ _ _ _ r9
          have HR9 := hid (owns_keep HR8.out K9 (fun b hb e => by
            obtain rfl : g = b := by simpa [Value.ownBlock] using hb
            omega))
          have HBP9 := hid (HBP8.out.keep K9 (fun p hp b hb e => HP8.out p hp b hb e))
          have HX9 := hid (show BoxS (w8.setCell ⟨w3.heap.size, 4, none⟩ (.slice a8 (l1 + 1) c8)) w.heap.size K1 N1 F1 (.slice p1 m1 d1) K2 N2 F2 (.slice p2 m2 d2) by
            have e := K9.block w.heap.size (by omega) (by omega)
            have q := HX8.out
            exact ⟨(World.cell?_of_block (w := w8) (a := ⟨w.heap.size, 0, none⟩) e).trans q.c0, (World.cell?_of_block (w := w8) (a := ⟨w.heap.size, 1, none⟩) e).trans q.c1, (World.cell?_of_block (w := w8) (a := ⟨w.heap.size, 2, none⟩) e).trans q.c2, (World.cell?_of_block (w := w8) (a := ⟨w.heap.size, 3, none⟩) e).trans q.c3, (World.cell?_of_block (w := w8) (a := ⟨w.heap.size, 4, none⟩) e).trans q.c4, (World.cell?_of_block (w := w8) (a := ⟨w.heap.size, 5, none⟩) e).trans q.c5, (World.cell?_of_block (w := w8) (a := ⟨w.heap.size, 6, none⟩) e).trans q.c6, (World.cell?_of_block (w := w8) (a := ⟨w.heap.size, 7, none⟩) e).trans q.c7⟩)
          have HB9 := hid (HB8.out.setCell (p := ⟨w3.heap.size, 4, none⟩) (by show w.heap.size ≤ w3.heap.size; omega) (.slice a8 (l1 + 1) c8))
          have HT9 := hid r9
          clear K9 r9 HS8 HS2 HB5 HT5 HR5 HBP5 HBd2 HZ5 HNw HR8 HBP8 HX8 HB8 HT8 HFr
          by_cases h6 : l1 < 6
          · have h6' : ¬ (6 : Int) < (l1 : Int) + 1 := by omega
            have HRT2 := hid (readT_one (t := ⟨xk, bk, ek, false, rk, wk, ik, ok⟩) (s := (⟨K1, N1, F1, Z1⟩, ⟨K2, N2, F2, Z2⟩)) rfl (by simp only [HL12.out.1]; exact h6))
            rw [HRT2.out] at HES HEC
            go_wp2_with fail
            clear k3 k4 kf3 kf4
            obtain ⟨W, hW⟩ : ∃ W, w8.setCell ⟨w3.heap.size, 4, none⟩ (.slice a8 (l1 + 1) c8) = W := ⟨_, rfl⟩
            rw [hW] at HR9 HBP9 HX9 HB9 HT9 z9
            try rw [hW]
            clear hW
            obtain ⟨t0, ht0⟩ : ∃ t0 : Tk, ⟨xk, bk, ek, false, rk ++ [(⟨K1, N1, F1, Z1⟩, ⟨K2, N2, F2, Z2⟩)], wk, ik, ok⟩ = t0 := ⟨_, rfl⟩
            obtain ⟨m0, hm0⟩ : ∃ m0 : Mt, ⟨.slice a8 (l1 + 1) c8, mX ++ [.slice pv m1 cv, .slice pv2 m2 cv2], .slice u2 l2 e2, mY⟩ = m0 := ⟨_, rfl⟩
            have HM0s := hid (show ∃ s1 s2 s3 s4 s5 s6, m0.y = .slice s1 s2 s3 ∧ m0.z = .slice s4 s5 s6 by rw [← hm0]; exact ⟨_, _, _, _, _, _, rfl, rfl⟩)
            have HM0 := hid (show t0.ws = (ts.getD k tk0).ws ∧ m0.z = (ps.getD k pm0).2.z by rw [HTK.out, HMK.out, ← ht0, ← hm0]; exact ⟨rfl, rfl⟩)
            have HT := hid (show W.heap[w3.heap.size]? = some (.cells (cellsT1 t0 m0).toArray 46) by rw [← ht0, ← hm0]; exact HT9.out)
            have HR := HR9
            have HX := HX9
            have HB := HB9
            rw [ht0, hm0] at HBP9 HP8
            rw [ht0] at HES HEC
            have HBP := HBP9
            have HP10 := HP8
            obtain ⟨hi1, hhi1⟩ : ∃ hi1, w8.heap.size = hi1 := ⟨_, rfl⟩
            rw [hhi1] at HBP
            have hS4 : hi1 ≤ W.heap.size := by omega
            have hS5 : w3.heap.size ≤ hi1 := by omega
            have hS3 : w3.heap.size < W.heap.size := by omega
            clear hhi1 ht0 hm0 HRT2 HR9 HBP9 HT9 HX9 HB9 HOwn HoR HoB HPk HP8 HWr8
            have hp10 : w3.heap.size < W.heap.size := by omega
            go_loopw [11, 12] (fun vc vi wr => ∃ i : Nat, i ≤ n ∧ vi = .int .i64 i ∧ vc = .int .i64 (cdJ true M ts i) ∧ Hid (wr.ownsRow w2.heap.size 46 8 (.slice (some ⟨g, 0, none⟩) n c3) n (cP (qJ true M ps i))) ∧ Hid (BandsP wr w2.heap.size hi1 (ps.set k (t0, m0))) ∧ Hid (wr.heap[w3.heap.size]? = some (.cells (cellsT1 (tJ true M t0 i) m0).toArray 46)) ∧ Hid (BoxS wr w.heap.size K1 N1 F1 (.slice p1 m1 d1) K2 N2 F2 (.slice p2 m2 d2)) ∧ Hid (Below w.heap.size w wr) ∧ W.heap.size ≤ wr.heap.size) (fun _ vi _ => n - (intOf vi).toNat)
            case atStart => exact ⟨0, Nat.zero_le _, rfl, rfl, HR, HBP, by rw [show tJ true M t0 0 = t0 from rfl]; exact HT, HX, HB, Nat.le_refl _⟩
            case round =>
              obtain ⟨i, hin, rfl, rfl, HR, HBP, HT, HX, HB, hsw⟩ := hrel
              obtain ⟨wo, hwo⟩ : ∃ wo, wo = wr := ⟨_, rfl⟩
              subst hwo
              have hqn : (qJ true M ps i).length = n := by rw [qJ_len]; exact HPS.out.2
              by_cases hlt : i < n
              · have hlt' : (i : Int) < (n : Int) := by omega
                have hi0 : (0 : Int) ≤ (i : Int) := by omega
                have hbx := row_box HR.out hqn hlt
                rw [qJ_at true M ps i (by have := HPS.out; omega) i (Nat.le_refl _)] at hbx
                obtain ⟨a1, c1, a2, c2, ey, ez, hp1⟩ := HSLs.out i hlt
                rw [ey, ez, hp1] at hbx
                have hrdW : ReadsM wo a2 (ts.getD i tk0).ws := by
                  have hj : i < (ps.set k (t0, m0)).length := by rw [List.length_set]; have := HPS.out; omega
                  have ho := HBP.out.own _ (List.getElem_mem hj)
                  rw [List.getElem_set] at ho
                  by_cases c : k = i
                  · rw [if_pos c] at ho
                    have h1 := ho.wr
                    rw [HM0.out.1, HM0.out.2, c] at h1
                    rw [ez] at h1
                    exact h1.rd
                  · rw [if_neg c] at ho
                    have h1 := ho.wr
                    have e : ps[i]'(by rw [List.length_set] at hj; exact hj) = ps.getD i pm0 := by simp [List.getD, show i < ps.length by have := HPS.out; omega]
                    rw [e, ez, hp1] at h1
                    exact h1.rd
                have hsmi := (HSM.out i).2
                have hlni := (HLN.out i).2
                have HTI0 := hid (show ∃ t, ts.getD i tk0 = t from ⟨_, rfl⟩)
                have HDg := hid (show dng true (ts.getD i tk0) = (decide (0 < (ts.getD i tk0).ended) && (ts.getD i tk0).out) by
                  have := (track_small (HOK.out i (by have := HL.out; omega))).2.2.2
                  unfold dng
                  congr 1
                  rw [Bool.eq_iff_iff, decide_eq_true_iff, decide_eq_true_iff]
                  omega)
                have HMi := hid (show M i = (!(decide (i = k)) && (concB (ts.getD k tk0) (ts.getD i tk0) && hitW (⟨K1, N1, F1, Z1⟩, ⟨K2, N2, F2, Z2⟩) (ts.getD i tk0))) from (HM.out i).symm)
                have HCs := hid (cdJ_succ true M ts i)
                have HPi := hid (show ps.getD i pm0 = (ts.getD i tk0, (ps.getD i pm0).2) by rw [← hp1])
                have HMy := hid (And.intro ey ez)
                clear HTI0
                obtain ⟨ti, hti⟩ : ∃ ti, ts.getD i tk0 = ti := ⟨_, rfl⟩
                rw [hti] at hbx hrdW hsmi hlni HDg HMi HCs HPi HMy
                clear hti ey ez hp1
                obtain ⟨xi, be, en, al, rs, ws, inn, ou⟩ := ti
                obtain ⟨y0, y1, y2, y3, y4, y5, y6, y7⟩ := hbx
                simp only at y0 y1 y2 y3 y4 y5 y6 y7 hrdW hsmi hlni HDg HMy
                obtain ⟨n1, hn1⟩ : ∃ n1, rs.length = n1 := ⟨_, rfl⟩
                obtain ⟨n2, hn2⟩ : ∃ n2, ws.length = n2 := ⟨_, rfl⟩
                rw [hn1] at y4 HMy
                rw [hn2] at y5 hlni HMy
                have HN2 := hid hn2
                have bA := Below.alloc1 wo (.cells #[.int .i64 xi, .int .i64 be, .int .i64 en, .bool al, .slice a1 n1 c1, .slice a2 n2 c2, .bool inn, .bool ou] 46)
                have HRA := hid (heap_alloc_new wo (.cells #[.int .i64 xi, .int .i64 be, .int .i64 en, .bool al, .slice a1 n1 c1, .slice a2 n2 c2, .bool inn, .bool ou] 46))
                have HZA := hid (alloc_size wo (.cells #[.int .i64 xi, .int .i64 be, .int .i64 en, .bool al, .slice a1 n1 c1, .slice a2 n2 c2, .bool inn, .bool ou] 46))
                have HAW := hid bA
                have HRW := hid (hrdW.below bA (Nat.le_refl _))
                have HXA := hid (HX.out.below bA (Nat.le_refl _))
                have HBA := hid (HB.out.trans (bA.mono HB.out.size))
                have HSm := hid hsmi
                clear bA hrdW hn1 hn2 hsmi hqn
                go_wp2_with fail
                clear y0 y1 y2 y3 y4 y5 y6 y7
                obtain ⟨wA, hwA⟩ : ∃ wA, wo.alloc (.cells #[.int .i64 xi, .int .i64 be, .int .i64 en, .bool al, .slice a1 n1 c1, .slice a2 n2 c2, .bool inn, .bool ou] 46) = wA := ⟨_, rfl⟩
                rw [hwA] at HRA HZA HAW HRW HXA HBA
                try rw [hwA]
                clear hwA
                go_loopw [14, 15] (fun vh vj wr => ∃ j : Nat, j ≤ n2 ∧ vj = .int .i64 j ∧ vh = .bool ((ws.take j).any (fun e => inM (⟨K1, N1, F1, Z1⟩, ⟨K2, N2, F2, Z2⟩) e)) ∧ Hid (Below wA.heap.size wA wr)) (fun _ vj _ => n2 - (intOf vj).toNat)
                case atStart => exact ⟨0, Nat.zero_le _, rfl, by simp, hid (Below.refl _ _)⟩
                case round =>
                  obtain ⟨j, hjn, rfl, rfl, HI⟩ := hrel
                  have hr13 := (HI.out.block wo.heap.size (by have := HZA.out; omega)).trans HRA.out
                  have k5 : wr.cell? ⟨wo.heap.size, 5, none⟩ = some (.slice a2 n2 c2) := by rw [cell_of_row _ _ _ _ _ _ hr13]; rfl
                  by_cases hjl : j < n2
                  · have hjl' : (j : Int) < (n2 : Int) := by omega
                    have hj0 : (0 : Int) ≤ (j : Int) := by omega
                    have hwsl := HN2.out
                    obtain ⟨b, off, px, cx, rfl, bx, qx, _, _, hfx⟩ := HRW.out.at (k := j) (by omega)
                    have hzx := HSm.out j
                    have HSt := hid (show (ws.take (j + 1)).any (fun e => inM (⟨K1, N1, F1, Z1⟩, ⟨K2, N2, F2, Z2⟩) e) = ((ws.take j).any (fun e => inM (⟨K1, N1, F1, Z1⟩, ⟨K2, N2, F2, Z2⟩) e) || inM (⟨K1, N1, F1, Z1⟩, ⟨K2, N2, F2, Z2⟩) (ws.getD j im0)) by
                      rw [List.take_succ_eq_append_getElem (by omega), List.any_append, show ws.getD j im0 = ws[j]'(by omega) by simp [List.getD, show j < ws.length by omega]]
                      simp)
                    obtain ⟨A, hA⟩ : ∃ A, (ws.take j).any (fun e => inM (⟨K1, N1, F1, Z1⟩, ⟨K2, N2, F2, Z2⟩) e) = A := ⟨_, rfl⟩
                    rw [hA] at HSt ⊢
                    clear hA
                    generalize ws.getD j im0 = ej at *
                    obtain ⟨KX, NX, FX, ZX⟩ := ej
                    simp only at bx qx hfx hzx
                    obtain ⟨mx, hmx⟩ : ∃ m, ZX.length = m := ⟨_, rfl⟩
                    rw [hmx] at bx qx hzx
                    have HIn := hid (show inM (⟨K1, N1, F1, Z1⟩, ⟨K2, N2, F2, Z2⟩) ⟨KX, NX, FX, ZX⟩ = inSp K1 N1 F1 m1 Z1 K2 N2 F2 m2 Z2 KX NX FX mx ZX by unfold inM; simp only [HQ1.out.len, HQ2.out.len, hmx])
                    have bD := (Below.refl wr.heap.size wr).drew
                    have HS0 := hid (show (fun V => BoxS V w.heap.size K1 N1 F1 (.slice p1 m1 d1) K2 N2 F2 (.slice p2 m2 d2) ∧ V.cell? ⟨wo.heap.size, 5, none⟩ = some (.slice (some ⟨b, off, none⟩) n2 c2) ∧ Box4 V b (off + j * 4) KX NX FX (.slice px mx cx)) wr.drew from ⟨(HXA.out.below HI.out (Nat.le_refl _)).below bD (Nat.le_refl _), k5, (bx.below HI.out (Nat.le_refl _)).below bD (Nat.le_refl _)⟩)
                    have HBi := hid ((HBA.out.trans (HI.out.mono HBA.out.size)).trans (bD.mono (by have := HI.out.size; have := HBA.out.size; omega)))
                    have QX := hid ((qx.below HI.out (Nat.le_refl _)).below bD (Nat.le_refl _))
                    have HID := hid (HI.out.trans (bD.mono HI.out.size))
                    clear bx qx hmx hwsl hr13 bD
                    cases A with
                    | true =>
                      replace HSt := hid (show (ws.take (j + 1)).any (fun e => inM (⟨K1, N1, F1, Z1⟩, ⟨K2, N2, F2, Z2⟩) e) = true by rw [HSt.out]; rfl)
                      go_wp2
                      clear k5
                      refine region_K 99 (fun V => BoxS V w.heap.size K1 N1 F1 (.slice p1 m1 d1) K2 N2 F2 (.slice p2 m2 d2) ∧ V.cell? ⟨wo.heap.size, 5, none⟩ = some (.slice (some ⟨b, off, none⟩) n2 c2) ∧ Box4 V b (off + j * 4) KX NX FX (.slice px mx cx)) (by kernel_rfl) ?_ (fun hHeld => ?_)
                      · exact HS0.out
                      generalize wr.drew = v0 at *
                      refine anyK_take2 (i := 0) (v := ?v0_54) rfl (by kernel_rfl) (by kernel_rfl) (by kernel_rfl) (by rfl) (fun _ _ _ h => h) (by rfl) hHeld ?hy0_54 (some 70) (by rfl) ?rest0_54
                      case hy0_54 => (intro W hSw; obtain ⟨⟨x0, x1, x2, x3, x4, x5, x6, x7⟩, x8, x9, x10, x11, x12⟩ := hSw; go_simp; (try with_reducible rfl))
                      try simp only [Act.put, List.setIfInBounds_toArray, List.set_cons_succ, List.set_cons_zero]
                      refine anyK_take2 (i := 1) (v := ?v1_55) rfl (by kernel_rfl) (by kernel_rfl) (by kernel_rfl) (by rfl) (fun _ _ _ h => h) (by rfl) hHeld ?hy1_55 (some 71) (by rfl) ?rest1_55
                      case hy1_55 => (intro W hSw; obtain ⟨⟨x0, x1, x2, x3, x4, x5, x6, x7⟩, x8, x9, x10, x11, x12⟩ := hSw; go_simp; (try with_reducible rfl))
                      try simp only [Act.put, List.setIfInBounds_toArray, List.set_cons_succ, List.set_cons_zero]
                      refine anyK_skip (i := 2) rfl (by kernel_rfl) (by kernel_rfl) (by kernel_rfl) (by kernel_rfl) (fun _ _ _ h => h) (by rfl) hHeld (some 72) (by rfl) ?_
                      try simp only [Act.put, List.setIfInBounds_toArray, List.set_cons_succ, List.set_cons_zero]
                      refine anyK_skip (i := 3) rfl (by kernel_rfl) (by kernel_rfl) (by kernel_rfl) (by kernel_rfl) (fun _ _ _ h => h) (by rfl) hHeld (some 73) (by rfl) ?_
                      try simp only [Act.put, List.setIfInBounds_toArray, List.set_cons_succ, List.set_cons_zero]
                      refine anyK_skip (i := 4) rfl (by kernel_rfl) (by kernel_rfl) (by kernel_rfl) (by kernel_rfl) (fun _ _ _ h => h) (by rfl) hHeld (some 74) (by rfl) ?_
                      try simp only [Act.put, List.setIfInBounds_toArray, List.set_cons_succ, List.set_cons_zero]
                      refine anyK_skip (i := 5) rfl (by kernel_rfl) (by kernel_rfl) (by kernel_rfl) (by kernel_rfl) (fun _ _ _ h => h) (by rfl) hHeld (some 75) (by rfl) ?_
                      try simp only [Act.put, List.setIfInBounds_toArray, List.set_cons_succ, List.set_cons_zero]
                      refine anyK_skip (i := 6) rfl (by kernel_rfl) (by kernel_rfl) (by kernel_rfl) (by kernel_rfl) (fun _ _ _ h => h) (by rfl) hHeld (some 76) (by rfl) ?_
                      try simp only [Act.put, List.setIfInBounds_toArray, List.set_cons_succ, List.set_cons_zero]
                      refine anyK_skip (i := 7) rfl (by kernel_rfl) (by kernel_rfl) (by kernel_rfl) (by kernel_rfl) (fun _ _ _ h => h) (by rfl) hHeld (some 77) (by rfl) ?_
                      try simp only [Act.put, List.setIfInBounds_toArray, List.set_cons_succ, List.set_cons_zero]
                      refine anyK_skip (i := 8) rfl (by kernel_rfl) (by kernel_rfl) (by kernel_rfl) (by kernel_rfl) (fun _ _ _ h => h) (by rfl) hHeld (some 78) (by rfl) ?_
                      try simp only [Act.put, List.setIfInBounds_toArray, List.set_cons_succ, List.set_cons_zero]
                      refine anyK_skip (i := 9) rfl (by kernel_rfl) (by kernel_rfl) (by kernel_rfl) (by kernel_rfl) (fun _ _ _ h => h) (by rfl) hHeld (some 79) (by rfl) ?_
                      try simp only [Act.put, List.setIfInBounds_toArray, List.set_cons_succ, List.set_cons_zero]
                      refine anyK_skip (i := 10) rfl (by kernel_rfl) (by kernel_rfl) (by kernel_rfl) (by kernel_rfl) (fun _ _ _ h => h) (by rfl) hHeld (some 80) (by rfl) ?_
                      try simp only [Act.put, List.setIfInBounds_toArray, List.set_cons_succ, List.set_cons_zero]
                      refine anyK_skip (i := 11) rfl (by kernel_rfl) (by kernel_rfl) (by kernel_rfl) (by kernel_rfl) (fun _ _ _ h => h) (by rfl) hHeld (some 81) (by rfl) ?_
                      try simp only [Act.put, List.setIfInBounds_toArray, List.set_cons_succ, List.set_cons_zero]
                      refine anyK_take2 (i := 12) (v := ?v12_56) rfl (by kernel_rfl) (by kernel_rfl) (by kernel_rfl) (by rfl) (fun _ _ _ h => h) (by rfl) hHeld ?hy12_56 (some 82) (by rfl) ?rest12_56
                      case hy12_56 => (intro W hSw; obtain ⟨⟨x0, x1, x2, x3, x4, x5, x6, x7⟩, x8, x9, x10, x11, x12⟩ := hSw; go_simp; (try with_reducible rfl))
                      try simp only [Act.put, List.setIfInBounds_toArray, List.set_cons_succ, List.set_cons_zero]
                      refine anyK_take2 (i := 13) (v := ?v13_57) rfl (by kernel_rfl) (by kernel_rfl) (by kernel_rfl) (by rfl) (fun _ _ _ h => h) (by rfl) hHeld ?hy13_57 (some 14) (by rfl) ?rest13_57
                      case hy13_57 => (intro W hSw; obtain ⟨⟨x0, x1, x2, x3, x4, x5, x6, x7⟩, x8, x9, x10, x11, x12⟩ := hSw; go_simp; (try with_reducible rfl))
                      try simp only [Act.put, List.setIfInBounds_toArray, List.set_cons_succ, List.set_cons_zero]
                      refine anyK_done (by kernel_rfl) ?_ _
                      clear hHeld
                      go_wp2_with fail
                      go_roundw
                      case rel => exact ⟨j + 1, by omega, by go_num, by rw [HSt.out], HID⟩
                      case measure => simp [intOf]; omega
                    | false =>
                      replace HSt := hid (show (ws.take (j + 1)).any (fun e => inM (⟨K1, N1, F1, Z1⟩, ⟨K2, N2, F2, Z2⟩) e) = inM (⟨K1, N1, F1, Z1⟩, ⟨K2, N2, F2, Z2⟩) ⟨KX, NX, FX, ZX⟩ by rw [HSt.out]; rfl)
                      go_wp2
                      clear k5
                      refine region_K 99 (fun V => BoxS V w.heap.size K1 N1 F1 (.slice p1 m1 d1) K2 N2 F2 (.slice p2 m2 d2) ∧ V.cell? ⟨wo.heap.size, 5, none⟩ = some (.slice (some ⟨b, off, none⟩) n2 c2) ∧ Box4 V b (off + j * 4) KX NX FX (.slice px mx cx)) (by kernel_rfl) ?_ (fun hHeld => ?_)
                      · exact HS0.out
                      generalize wr.drew = v0 at *
                      refine anyK_take2 (i := 0) (v := ?v0_58) rfl (by kernel_rfl) (by kernel_rfl) (by kernel_rfl) (by rfl) (fun _ _ _ h => h) (by rfl) hHeld ?hy0_58 (some 70) (by rfl) ?rest0_58
                      case hy0_58 => (intro W hSw; obtain ⟨⟨x0, x1, x2, x3, x4, x5, x6, x7⟩, x8, x9, x10, x11, x12⟩ := hSw; go_simp; (try with_reducible rfl))
                      try simp only [Act.put, List.setIfInBounds_toArray, List.set_cons_succ, List.set_cons_zero]
                      refine anyK_take2 (i := 1) (v := ?v1_59) rfl (by kernel_rfl) (by kernel_rfl) (by kernel_rfl) (by rfl) (fun _ _ _ h => h) (by rfl) hHeld ?hy1_59 (some 71) (by rfl) ?rest1_59
                      case hy1_59 => (intro W hSw; obtain ⟨⟨x0, x1, x2, x3, x4, x5, x6, x7⟩, x8, x9, x10, x11, x12⟩ := hSw; go_simp; (try with_reducible rfl))
                      try simp only [Act.put, List.setIfInBounds_toArray, List.set_cons_succ, List.set_cons_zero]
                      refine anyK_take2 (i := 2) (v := ?v2_60) rfl (by kernel_rfl) (by kernel_rfl) (by kernel_rfl) (by rfl) (fun _ _ _ h => h) (by rfl) hHeld ?hy2_60 (some 72) (by rfl) ?rest2_60
                      case hy2_60 => (intro W hSw; obtain ⟨⟨x0, x1, x2, x3, x4, x5, x6, x7⟩, x8, x9, x10, x11, x12⟩ := hSw; go_simp; (try with_reducible rfl))
                      try simp only [Act.put, List.setIfInBounds_toArray, List.set_cons_succ, List.set_cons_zero]
                      refine anyK_take2 (i := 3) (v := ?v3_61) rfl (by kernel_rfl) (by kernel_rfl) (by kernel_rfl) (by rfl) (fun _ _ _ h => h) (by rfl) hHeld ?hy3_61 (some 73) (by rfl) ?rest3_61
                      case hy3_61 => (intro W hSw; obtain ⟨⟨x0, x1, x2, x3, x4, x5, x6, x7⟩, x8, x9, x10, x11, x12⟩ := hSw; go_simp; (try with_reducible rfl))
                      try simp only [Act.put, List.setIfInBounds_toArray, List.set_cons_succ, List.set_cons_zero]
                      refine anyK_take2 (i := 4) (v := ?v4_62) rfl (by kernel_rfl) (by kernel_rfl) (by kernel_rfl) (by rfl) (fun _ _ _ h => h) (by rfl) hHeld ?hy4_62 (some 74) (by rfl) ?rest4_62
                      case hy4_62 => (intro W hSw; obtain ⟨⟨x0, x1, x2, x3, x4, x5, x6, x7⟩, x8, x9, x10, x11, x12⟩ := hSw; go_simp; (try with_reducible rfl))
                      try simp only [Act.put, List.setIfInBounds_toArray, List.set_cons_succ, List.set_cons_zero]
                      refine anyK_take2 (i := 5) (v := ?v5_63) rfl (by kernel_rfl) (by kernel_rfl) (by kernel_rfl) (by rfl) (fun _ _ _ h => h) (by rfl) hHeld ?hy5_63 (some 75) (by rfl) ?rest5_63
                      case hy5_63 => (intro W hSw; obtain ⟨⟨x0, x1, x2, x3, x4, x5, x6, x7⟩, x8, x9, x10, x11, x12⟩ := hSw; go_simp; (try with_reducible rfl))
                      try simp only [Act.put, List.setIfInBounds_toArray, List.set_cons_succ, List.set_cons_zero]
                      refine anyK_take2 (i := 6) (v := ?v6_64) rfl (by kernel_rfl) (by kernel_rfl) (by kernel_rfl) (by rfl) (fun _ _ _ h => h) (by rfl) hHeld ?hy6_64 (some 76) (by rfl) ?rest6_64
                      case hy6_64 => (intro W hSw; obtain ⟨⟨x0, x1, x2, x3, x4, x5, x6, x7⟩, x8, x9, x10, x11, x12⟩ := hSw; go_simp; (try with_reducible rfl))
                      try simp only [Act.put, List.setIfInBounds_toArray, List.set_cons_succ, List.set_cons_zero]
                      refine anyK_take2 (i := 7) (v := ?v7_65) rfl (by kernel_rfl) (by kernel_rfl) (by kernel_rfl) (by rfl) (fun _ _ _ h => h) (by rfl) hHeld ?hy7_65 (some 77) (by rfl) ?rest7_65
                      case hy7_65 => (intro W hSw; obtain ⟨⟨x0, x1, x2, x3, x4, x5, x6, x7⟩, x8, x9, x10, x11, x12⟩ := hSw; go_simp; (try with_reducible rfl))
                      try simp only [Act.put, List.setIfInBounds_toArray, List.set_cons_succ, List.set_cons_zero]
                      refine anyK_take2 (i := 8) (v := ?v8_66) rfl (by kernel_rfl) (by kernel_rfl) (by kernel_rfl) (by rfl) (fun _ _ _ h => h) (by rfl) hHeld ?hy8_66 (some 78) (by rfl) ?rest8_66
                      case hy8_66 => (intro W hSw; obtain ⟨⟨x0, x1, x2, x3, x4, x5, x6, x7⟩, x8, x9, x10, x11, x12⟩ := hSw; go_simp; (try with_reducible rfl))
                      try simp only [Act.put, List.setIfInBounds_toArray, List.set_cons_succ, List.set_cons_zero]
                      refine anyK_take2 (i := 9) (v := ?v9_67) rfl (by kernel_rfl) (by kernel_rfl) (by kernel_rfl) (by rfl) (fun _ _ _ h => h) (by rfl) hHeld ?hy9_67 (some 79) (by rfl) ?rest9_67
                      case hy9_67 => (intro W hSw; obtain ⟨⟨x0, x1, x2, x3, x4, x5, x6, x7⟩, x8, x9, x10, x11, x12⟩ := hSw; go_simp; (try with_reducible rfl))
                      try simp only [Act.put, List.setIfInBounds_toArray, List.set_cons_succ, List.set_cons_zero]
                      refine anyK_take2 (i := 10) (v := ?v10_68) rfl (by kernel_rfl) (by kernel_rfl) (by kernel_rfl) (by rfl) (fun _ _ _ h => h) (by rfl) hHeld ?hy10_68 (some 80) (by rfl) ?rest10_68
                      case hy10_68 => (intro W hSw; obtain ⟨⟨x0, x1, x2, x3, x4, x5, x6, x7⟩, x8, x9, x10, x11, x12⟩ := hSw; go_simp; (try with_reducible rfl))
                      try simp only [Act.put, List.setIfInBounds_toArray, List.set_cons_succ, List.set_cons_zero]
                      refine anyK_step (i := 11) (by kernel_rfl) rfl (fun KP hK => ?_)
                      go_simp
                      refine (spec_InSpan K1 N1 K2 N2 KX NX F1 F2 FX d1 d2 cx hf1 hf2 hfx (HQ1.out.below HBi.out (Nat.le_refl _)) (HQ2.out.below HBi.out (Nat.le_refl _)) QX.out hz1 hz2 hzx).mono ?_
                      rintro e u ⟨rfl, b1⟩
                      rw [← HIn.out, ← HSt.out]
                      obtain ⟨A2, hA2⟩ : ∃ A2, (ws.take (j + 1)).any (fun e => inM (⟨K1, N1, F1, Z1⟩, ⟨K2, N2, F2, Z2⟩) e) = A2 := ⟨_, rfl⟩
                      rw [hA2]
                      have HA2 := hid hA2
                      have HS1 := hid (show (fun V => BoxS V w.heap.size K1 N1 F1 (.slice p1 m1 d1) K2 N2 F2 (.slice p2 m2 d2) ∧ V.cell? ⟨wo.heap.size, 5, none⟩ = some (.slice (some ⟨b, off, none⟩) n2 c2) ∧ Box4 V b (off + j * 4) KX NX FX (.slice px mx cx)) u from ⟨HS0.out.1.below b1 (Nat.le_refl _), (b1.cell (p := ⟨wo.heap.size, 5, none⟩) (World.block_lt_of_cell? _ _ HS0.out.2.1)).trans HS0.out.2.1, HS0.out.2.2.below b1 (Nat.le_refl _)⟩)
                      have HI2 := hid (HID.out.trans (b1.mono HID.out.size))
                      clear b1 hA2
                      go_wp2_with fail
                      clear hHeld
                      refine hK.out _ _ HS1.out (fun hHeld => ?_)
                      clear hK KP
                      try simp only [Act.put, List.setIfInBounds_toArray, List.set_cons_succ, List.set_cons_zero]
                      refine anyK_take2 (i := 12) (v := ?v12_69) rfl (by kernel_rfl) (by kernel_rfl) (by kernel_rfl) (by rfl) (fun _ _ _ h => h) (by rfl) hHeld ?hy12_69 (some 82) (by rfl) ?rest12_69
                      case hy12_69 => (intro W hSw; obtain ⟨⟨x0, x1, x2, x3, x4, x5, x6, x7⟩, x8, x9, x10, x11, x12⟩ := hSw; go_simp; (try with_reducible rfl))
                      try simp only [Act.put, List.setIfInBounds_toArray, List.set_cons_succ, List.set_cons_zero]
                      refine anyK_take2 (i := 13) (v := ?v13_70) rfl (by kernel_rfl) (by kernel_rfl) (by kernel_rfl) (by rfl) (fun _ _ _ h => h) (by rfl) hHeld ?hy13_70 (some 14) (by rfl) ?rest13_70
                      case hy13_70 => (intro W hSw; obtain ⟨⟨x0, x1, x2, x3, x4, x5, x6, x7⟩, x8, x9, x10, x11, x12⟩ := hSw; go_simp; (try with_reducible rfl))
                      try simp only [Act.put, List.setIfInBounds_toArray, List.set_cons_succ, List.set_cons_zero]
                      refine anyK_done (by kernel_rfl) ?_ _
                      clear hHeld
                      go_wp2_with fail
                      go_roundw
                      case rel => exact ⟨j + 1, by omega, by go_num, by rw [HA2.out], HI2⟩
                      case measure => simp [intOf]; omega
                  · have hjl' : ¬ (j : Int) < (n2 : Int) := by omega
                    have HHit := hid (show (ws.take j).any (fun e => inM (⟨K1, N1, F1, Z1⟩, ⟨K2, N2, F2, Z2⟩) e) = hitW (⟨K1, N1, F1, Z1⟩, ⟨K2, N2, F2, Z2⟩) ⟨xi, be, en, al, rs, ws, inn, ou⟩ by rw [List.take_of_length_le (by have := HN2.out; omega)]; rfl)
                    rw [HHit.out]
                    obtain ⟨bl, ofl, v1, f1, v2, f2, el, bxl0, _, _, _, _⟩ := (HRT.out.below HBA.out (Nat.le_refl _)).at (k := k) HKN.out
                    have bxl := bxl0.below HI.out (Nat.le_refl _)
                    rw [HTK.out] at bxl
                    rw [HTK.out] at HMi
                    obtain ⟨h1, hh1⟩ : ∃ h1, (⟨xk, bk, ek, false, rk, wk, ik, ok⟩ : Tk).rs.length = h1 := ⟨_, rfl⟩
                    obtain ⟨h2, hh2⟩ : ∃ h2, (⟨xk, bk, ek, false, rk, wk, ik, ok⟩ : Tk).ws.length = h2 := ⟨_, rfl⟩
                    rw [hh1, hh2] at bxl
                    subst el
                    have bD := (Below.refl wr.heap.size wr).drew
                    have HS0 := hid (show (fun V => Box8 V bl (ofl + k * 8) ⟨xk, bk, ek, false, rk, wk, ik, ok⟩ (.slice v1 h1 f1) (.slice v2 h2 f2) ∧ BoxK V wo.heap.size xi be en al (.slice a1 n1 c1) (.slice a2 n2 c2) inn ou) wr.drew from ⟨bxl.below bD (Nat.le_refl _), (BoxK.row hr13).below bD (Nat.le_refl _)⟩)
                    have HID := hid (HI.out.trans (bD.mono HI.out.size))
                    obtain ⟨CB, hCB⟩ : ∃ CB, concB ⟨xk, bk, ek, false, rk, wk, ik, ok⟩ ⟨xi, be, en, al, rs, ws, inn, ou⟩ = CB := ⟨_, rfl⟩
                    obtain ⟨HH, hHH⟩ : ∃ HH, hitW (⟨K1, N1, F1, Z1⟩, ⟨K2, N2, F2, Z2⟩) ⟨xi, be, en, al, rs, ws, inn, ou⟩ = HH := ⟨_, rfl⟩
                    rw [hCB, hHH] at HMi
                    rw [hHH]
                    have HCB := hid hCB
                    clear bxl0 bxl bD hCB hHH HHit hr13 hh1 hh2 HI
                    -- what stands behind the test, in a world that is only greater
                    have after : ∀ u, Below wA.heap.size wA u → Hid (u.ownsRow w2.heap.size 46 8 (.slice (some ⟨g, 0, none⟩) n c3) n (cP (qJ true M ps i)) ∧ BandsP u w2.heap.size hi1 (ps.set k (t0, m0)) ∧ u.heap[w3.heap.size]? = some (.cells (cellsT1 (tJ true M t0 i) m0).toArray 46) ∧ BoxS u w.heap.size K1 N1 F1 (.slice p1 m1 d1) K2 N2 F2 (.slice p2 m2 d2) ∧ Below w.heap.size w u ∧ W.heap.size ≤ u.heap.size ∧ u.heap[wo.heap.size]? = some (.cells #[.int .i64 xi, .int .i64 be, .int .i64 en, .bool al, .slice a1 n1 c1, .slice a2 n2 c2, .bool inn, .bool ou] 46) ∧ wo.heap.size < u.heap.size) := fun u bu => hid (by
                      have bb := HAW.out.trans (bu.mono HAW.out.size)
                      exact ⟨owns_below bb (Nat.le_refl _) HR.out, HBP.out.keep (Keeps.of_below (X := fun _ => False) bb) (fun _ _ _ _ x => x.elim), (bb.block _ (by omega)).trans HT.out, HX.out.below bb (Nat.le_refl _), HB.out.trans (bb.mono HB.out.size), by have := bb.size; omega, (bu.block _ (by have := HZA.out; omega)).trans HRA.out, by have := bu.size; have := HZA.out; omega⟩)
                    have HAf := hid after
                    clear after
                    by_cases hik : i = k
                    · have hq : ((i : Int) == (k : Int)) = true := by simpa using (show (i : Int) = (k : Int) by omega)
                      have hMf : M i = false := by rw [HMi.out, decide_eq_true hik]; rfl
                      have HQe := hid (qJ_no true M ps hMf)
                      have HTe := hid (show tJ true M t0 (i + 1) = tJ true M t0 i by rw [tJ_succ, hMf]; rfl)
                      have HCe := hid (show cdJ true M ts (i + 1) = cdJ true M ts i by rw [cdJ_succ, hMf]; rfl)
                      clear hik hMf
                      go_wp2
                      clear k5
                      refine region_K 99 (fun V => Box8 V bl (ofl + k * 8) ⟨xk, bk, ek, false, rk, wk, ik, ok⟩ (.slice v1 h1 f1) (.slice v2 h2 f2) ∧ BoxK V wo.heap.size xi be en al (.slice a1 n1 c1) (.slice a2 n2 c2) inn ou) (by kernel_rfl) ?_ (fun hHeld => ?_)
                      · exact HS0.out
                      generalize wr.drew = v0 at *
                      refine anyK_take2 (i := 0) (v := ?v0_71) rfl (by kernel_rfl) (by kernel_rfl) (by kernel_rfl) (by rfl) (fun _ _ _ h => h) (by rfl) hHeld ?hy0_71 (some 83) (by rfl) ?rest0_71
                      case hy0_71 => (intro W hSw; obtain ⟨⟨x0, x1, x2, x3, x4, x5, x6, x7⟩, x8, x9, x10, x11, x12, x13, x14, x15⟩ := hSw; go_simp; (try with_reducible rfl))
                      try simp only [Act.put, List.setIfInBounds_toArray, List.set_cons_succ, List.set_cons_zero]
                      refine anyK_take2 (i := 1) (v := ?v1_72) rfl (by kernel_rfl) (by kernel_rfl) (by kernel_rfl) (by rfl) (fun _ _ _ h => h) (by rfl) hHeld ?hy1_72 (some 84) (by rfl) ?rest1_72
                      case hy1_72 => (intro W hSw; obtain ⟨⟨x0, x1, x2, x3, x4, x5, x6, x7⟩, x8, x9, x10, x11, x12, x13, x14, x15⟩ := hSw; go_simp; (try with_reducible rfl))
                      try simp only [Act.put, List.setIfInBounds_toArray, List.set_cons_succ, List.set_cons_zero]
                      refine anyK_take2 (i := 2) (v := ?v2_73) rfl (by kernel_rfl) (by kernel_rfl) (by kernel_rfl) (by rfl) (fun _ _ _ h => h) (by rfl) hHeld ?hy2_73 (some 85) (by rfl) ?rest2_73
                      case hy2_73 => (intro W hSw; obtain ⟨⟨x0, x1, x2, x3, x4, x5, x6, x7⟩, x8, x9, x10, x11, x12, x13, x14, x15⟩ := hSw; go_simp; (try with_reducible rfl))
                      try simp only [Act.put, List.setIfInBounds_toArray, List.set_cons_succ, List.set_cons_zero]
                      refine anyK_take2 (i := 3) (v := ?v3_74) rfl (by kernel_rfl) (by kernel_rfl) (by kernel_rfl) (by rfl) (fun _ _ _ h => h) (by rfl) hHeld ?hy3_74 (some 86) (by rfl) ?rest3_74
                      case hy3_74 => (intro W hSw; obtain ⟨⟨x0, x1, x2, x3, x4, x5, x6, x7⟩, x8, x9, x10, x11, x12, x13, x14, x15⟩ := hSw; go_simp; (try with_reducible rfl))
                      try simp only [Act.put, List.setIfInBounds_toArray, List.set_cons_succ, List.set_cons_zero]
                      refine anyK_skip (i := 4) rfl (by kernel_rfl) (by kernel_rfl) (by kernel_rfl) (by kernel_rfl) (fun _ _ _ h => h) (by rfl) hHeld (some 87) (by rfl) ?_
                      try simp only [Act.put, List.setIfInBounds_toArray, List.set_cons_succ, List.set_cons_zero]
                      refine anyK_skip (i := 5) rfl (by kernel_rfl) (by kernel_rfl) (by kernel_rfl) (by kernel_rfl) (fun _ _ _ h => h) (by rfl) hHeld (some 88) (by rfl) ?_
                      try simp only [Act.put, List.setIfInBounds_toArray, List.set_cons_succ, List.set_cons_zero]
                      refine anyK_take2 (i := 6) (v := ?v6_75) rfl (by kernel_rfl) (by kernel_rfl) (by kernel_rfl) (by rfl) (fun _ _ _ h => h) (by rfl) hHeld ?hy6_75 (some 89) (by rfl) ?rest6_75
                      case hy6_75 => (intro W hSw; obtain ⟨⟨x0, x1, x2, x3, x4, x5, x6, x7⟩, x8, x9, x10, x11, x12, x13, x14, x15⟩ := hSw; go_simp; (try with_reducible rfl))
                      try simp only [Act.put, List.setIfInBounds_toArray, List.set_cons_succ, List.set_cons_zero]
                      refine anyK_take2 (i := 7) (v := ?v7_76) rfl (by kernel_rfl) (by kernel_rfl) (by kernel_rfl) (by rfl) (fun _ _ _ h => h) (by rfl) hHeld ?hy7_76 (some 90) (by rfl) ?rest7_76
                      case hy7_76 => (intro W hSw; obtain ⟨⟨x0, x1, x2, x3, x4, x5, x6, x7⟩, x8, x9, x10, x11, x12, x13, x14, x15⟩ := hSw; go_simp; (try with_reducible rfl))
                      try simp only [Act.put, List.setIfInBounds_toArray, List.set_cons_succ, List.set_cons_zero]
                      refine anyK_skip (i := 8) rfl (by kernel_rfl) (by kernel_rfl) (by kernel_rfl) (by kernel_rfl) (fun _ _ _ h => h) (by rfl) hHeld (some 91) (by rfl) ?_
                      try simp only [Act.put, List.setIfInBounds_toArray, List.set_cons_succ, List.set_cons_zero]
                      refine anyK_skip (i := 9) rfl (by kernel_rfl) (by kernel_rfl) (by kernel_rfl) (by kernel_rfl) (fun _ _ _ h => h) (by rfl) hHeld (some 92) (by rfl) ?_
                      try simp only [Act.put, List.setIfInBounds_toArray, List.set_cons_succ, List.set_cons_zero]
                      refine anyK_skip (i := 10) rfl (by kernel_rfl) (by kernel_rfl) (by kernel_rfl) (by kernel_rfl) (fun _ _ _ h => h) (by rfl) hHeld (some 93) (by rfl) ?_
                      try simp only [Act.put, List.setIfInBounds_toArray, List.set_cons_succ, List.set_cons_zero]
                      refine anyK_skip (i := 11) rfl (by kernel_rfl) (by kernel_rfl) (by kernel_rfl) (by kernel_rfl) (fun _ _ _ h => h) (by rfl) hHeld (some 94) (by rfl) ?_
                      try simp only [Act.put, List.setIfInBounds_toArray, List.set_cons_succ, List.set_cons_zero]
                      refine anyK_skip (i := 12) rfl (by kernel_rfl) (by kernel_rfl) (by kernel_rfl) (by kernel_rfl) (fun _ _ _ h => h) (by rfl) hHeld (some 95) (by rfl) ?_
                      try simp only [Act.put, List.setIfInBounds_toArray, List.set_cons_succ, List.set_cons_zero]
                      refine anyK_skip (i := 13) rfl (by kernel_rfl) (by kernel_rfl) (by kernel_rfl) (by kernel_rfl) (fun _ _ _ h => h) (by rfl) hHeld (some 96) (by rfl) ?_
                      try simp only [Act.put, List.setIfInBounds_toArray, List.set_cons_succ, List.set_cons_zero]
                      refine anyK_skip (i := 14) rfl (by kernel_rfl) (by kernel_rfl) (by kernel_rfl) (by kernel_rfl) (fun _ _ _ h => h) (by rfl) hHeld (some 97) (by rfl) ?_
                      try simp only [Act.put, List.setIfInBounds_toArray, List.set_cons_succ, List.set_cons_zero]
                      refine anyK_take2 (i := 15) (v := ?v15_77) rfl (by kernel_rfl) (by kernel_rfl) (by kernel_rfl) (by rfl) (fun _ _ _ h => h) (by rfl) hHeld ?hy15_77 (some 98) (by rfl) ?rest15_77
                      case hy15_77 => (intro W hSw; obtain ⟨⟨x0, x1, x2, x3, x4, x5, x6, x7⟩, x8, x9, x10, x11, x12, x13, x14, x15⟩ := hSw; go_simp; (try with_reducible rfl))
                      try simp only [Act.put, List.setIfInBounds_toArray, List.set_cons_succ, List.set_cons_zero]
                      refine anyK_done (by kernel_rfl) ?_ _
                      clear hHeld
                      go_wp2_with fail
                      go_roundw
                      case rel => exact ⟨i + 1, by omega, by go_num, by rw [HCe.out], hid (by rw [HQe.out]; exact (HAf.out _ HID.out).out.1), hid (HAf.out _ HID.out).out.2.1, hid (by rw [HTe.out]; exact (HAf.out _ HID.out).out.2.2.1), hid (HAf.out _ HID.out).out.2.2.2.1, hid (HAf.out _ HID.out).out.2.2.2.2.1, (HAf.out _ HID.out).out.2.2.2.2.2.1⟩
                      case measure => simp [intOf]; omega
                    · have hq : ((i : Int) == (k : Int)) = false := by simpa using (show ¬ (i : Int) = (k : Int) by omega)
                      cases HH with
                      | false =>
                        have hMf : M i = false := by rw [HMi.out, Bool.and_false, Bool.and_false]
                        have HQe := hid (qJ_no true M ps hMf)
                        have HTe := hid (show tJ true M t0 (i + 1) = tJ true M t0 i by rw [tJ_succ, hMf]; rfl)
                        have HCe := hid (show cdJ true M ts (i + 1) = cdJ true M ts i by rw [cdJ_succ, hMf]; rfl)
                        clear hik hMf
                        go_wp2
                        clear k5
                        refine region_K 99 (fun V => Box8 V bl (ofl + k * 8) ⟨xk, bk, ek, false, rk, wk, ik, ok⟩ (.slice v1 h1 f1) (.slice v2 h2 f2) ∧ BoxK V wo.heap.size xi be en al (.slice a1 n1 c1) (.slice a2 n2 c2) inn ou) (by kernel_rfl) ?_ (fun hHeld => ?_)
                        · exact HS0.out
                        generalize wr.drew = v0 at *
                        refine anyK_take2 (i := 0) (v := ?v0_78) rfl (by kernel_rfl) (by kernel_rfl) (by kernel_rfl) (by rfl) (fun _ _ _ h => h) (by rfl) hHeld ?hy0_78 (some 83) (by rfl) ?rest0_78
                        case hy0_78 => (intro W hSw; obtain ⟨⟨x0, x1, x2, x3, x4, x5, x6, x7⟩, x8, x9, x10, x11, x12, x13, x14, x15⟩ := hSw; go_simp; (try with_reducible rfl))
                        try simp only [Act.put, List.setIfInBounds_toArray, List.set_cons_succ, List.set_cons_zero]
                        refine anyK_take2 (i := 1) (v := ?v1_79) rfl (by kernel_rfl) (by kernel_rfl) (by kernel_rfl) (by rfl) (fun _ _ _ h => h) (by rfl) hHeld ?hy1_79 (some 84) (by rfl) ?rest1_79
                        case hy1_79 => (intro W hSw; obtain ⟨⟨x0, x1, x2, x3, x4, x5, x6, x7⟩, x8, x9, x10, x11, x12, x13, x14, x15⟩ := hSw; go_simp; (try with_reducible rfl))
                        try simp only [Act.put, List.setIfInBounds_toArray, List.set_cons_succ, List.set_cons_zero]
                        refine anyK_take2 (i := 2) (v := ?v2_80) rfl (by kernel_rfl) (by kernel_rfl) (by kernel_rfl) (by rfl) (fun _ _ _ h => h) (by rfl) hHeld ?hy2_80 (some 85) (by rfl) ?rest2_80
                        case hy2_80 => (intro W hSw; obtain ⟨⟨x0, x1, x2, x3, x4, x5, x6, x7⟩, x8, x9, x10, x11, x12, x13, x14, x15⟩ := hSw; go_simp; (try with_reducible rfl))
                        try simp only [Act.put, List.setIfInBounds_toArray, List.set_cons_succ, List.set_cons_zero]
                        refine anyK_take2 (i := 3) (v := ?v3_81) rfl (by kernel_rfl) (by kernel_rfl) (by kernel_rfl) (by rfl) (fun _ _ _ h => h) (by rfl) hHeld ?hy3_81 (some 86) (by rfl) ?rest3_81
                        case hy3_81 => (intro W hSw; obtain ⟨⟨x0, x1, x2, x3, x4, x5, x6, x7⟩, x8, x9, x10, x11, x12, x13, x14, x15⟩ := hSw; go_simp; (try with_reducible rfl))
                        try simp only [Act.put, List.setIfInBounds_toArray, List.set_cons_succ, List.set_cons_zero]
                        refine anyK_take2 (i := 4) (v := ?v4_82) rfl (by kernel_rfl) (by kernel_rfl) (by kernel_rfl) (by rfl) (fun _ _ _ h => h) (by rfl) hHeld ?hy4_82 (some 87) (by rfl) ?rest4_82
                        case hy4_82 => (intro W hSw; obtain ⟨⟨x0, x1, x2, x3, x4, x5, x6, x7⟩, x8, x9, x10, x11, x12, x13, x14, x15⟩ := hSw; go_simp; (try with_reducible rfl))
                        try simp only [Act.put, List.setIfInBounds_toArray, List.set_cons_succ, List.set_cons_zero]
                        refine anyK_take2 (i := 5) (v := ?v5_83) rfl (by kernel_rfl) (by kernel_rfl) (by kernel_rfl) (by rfl) (fun _ _ _ h => h) (by rfl) hHeld ?hy5_83 (some 88) (by rfl) ?rest5_83
                        case hy5_83 => (intro W hSw; obtain ⟨⟨x0, x1, x2, x3, x4, x5, x6, x7⟩, x8, x9, x10, x11, x12, x13, x14, x15⟩ := hSw; go_simp; (try with_reducible rfl))
                        try simp only [Act.put, List.setIfInBounds_toArray, List.set_cons_succ, List.set_cons_zero]
                        refine anyK_take2 (i := 6) (v := ?v6_84) rfl (by kernel_rfl) (by kernel_rfl) (by kernel_rfl) (by rfl) (fun _ _ _ h => h) (by rfl) hHeld ?hy6_84 (some 89) (by rfl) ?rest6_84
                        case hy6_84 => (intro W hSw; obtain ⟨⟨x0, x1, x2, x3, x4, x5, x6, x7⟩, x8, x9, x10, x11, x12, x13, x14, x15⟩ := hSw; go_simp; (try with_reducible rfl))
                        try simp only [Act.put, List.setIfInBounds_toArray, List.set_cons_succ, List.set_cons_zero]
                        refine anyK_take2 (i := 7) (v := ?v7_85) rfl (by kernel_rfl) (by kernel_rfl) (by kernel_rfl) (by rfl) (fun _ _ _ h => h) (by rfl) hHeld ?hy7_85 (some 90) (by rfl) ?rest7_85
                        case hy7_85 => (intro W hSw; obtain ⟨⟨x0, x1, x2, x3, x4, x5, x6, x7⟩, x8, x9, x10, x11, x12, x13, x14, x15⟩ := hSw; go_simp; (try with_reducible rfl))
                        try simp only [Act.put, List.setIfInBounds_toArray, List.set_cons_succ, List.set_cons_zero]
                        refine anyK_skip (i := 8) rfl (by kernel_rfl) (by kernel_rfl) (by kernel_rfl) (by kernel_rfl) (fun _ _ _ h => h) (by rfl) hHeld (some 91) (by rfl) ?_
                        try simp only [Act.put, List.setIfInBounds_toArray, List.set_cons_succ, List.set_cons_zero]
                        refine anyK_skip (i := 9) rfl (by kernel_rfl) (by kernel_rfl) (by kernel_rfl) (by kernel_rfl) (fun _ _ _ h => h) (by rfl) hHeld (some 92) (by rfl) ?_
                        try simp only [Act.put, List.setIfInBounds_toArray, List.set_cons_succ, List.set_cons_zero]
                        refine anyK_skip (i := 10) rfl (by kernel_rfl) (by kernel_rfl) (by kernel_rfl) (by kernel_rfl) (fun _ _ _ h => h) (by rfl) hHeld (some 93) (by rfl) ?_
                        try simp only [Act.put, List.setIfInBounds_toArray, List.set_cons_succ, List.set_cons_zero]
                        refine anyK_skip (i := 11) rfl (by kernel_rfl) (by kernel_rfl) (by kernel_rfl) (by kernel_rfl) (fun _ _ _ h => h) (by rfl) hHeld (some 94) (by rfl) ?_
                        try simp only [Act.put, List.setIfInBounds_toArray, List.set_cons_succ, List.set_cons_zero]
                        refine anyK_skip (i := 12) rfl (by kernel_rfl) (by kernel_rfl) (by kernel_rfl) (by kernel_rfl) (fun _ _ _ h => h) (by rfl) hHeld (some 95) (by rfl) ?_
                        try simp only [Act.put, List.setIfInBounds_toArray, List.set_cons_succ, List.set_cons_zero]
                        refine anyK_skip (i := 13) rfl (by kernel_rfl) (by kernel_rfl) (by kernel_rfl) (by kernel_rfl) (fun _ _ _ h => h) (by rfl) hHeld (some 96) (by rfl) ?_
                        try simp only [Act.put, List.setIfInBounds_toArray, List.set_cons_succ, List.set_cons_zero]
                        refine anyK_skip (i := 14) rfl (by kernel_rfl) (by kernel_rfl) (by kernel_rfl) (by kernel_rfl) (fun _ _ _ h => h) (by rfl) hHeld (some 97) (by rfl) ?_
                        try simp only [Act.put, List.setIfInBounds_toArray, List.set_cons_succ, List.set_cons_zero]
                        refine anyK_take2 (i := 15) (v := ?v15_86) rfl (by kernel_rfl) (by kernel_rfl) (by kernel_rfl) (by rfl) (fun _ _ _ h => h) (by rfl) hHeld ?hy15_86 (some 98) (by rfl) ?rest15_86
                        case hy15_86 => (intro W hSw; obtain ⟨⟨x0, x1, x2, x3, x4, x5, x6, x7⟩, x8, x9, x10, x11, x12, x13, x14, x15⟩ := hSw; go_simp; (try with_reducible rfl))
                        try simp only [Act.put, List.setIfInBounds_toArray, List.set_cons_succ, List.set_cons_zero]
                        refine anyK_done (by kernel_rfl) ?_ _
                        clear hHeld
                        go_wp2_with fail
                        go_roundw
                        case rel => exact ⟨i + 1, by omega, by go_num, by rw [HCe.out], hid (by rw [HQe.out]; exact (HAf.out _ HID.out).out.1), hid (HAf.out _ HID.out).out.2.1, hid (by rw [HTe.out]; exact (HAf.out _ HID.out).out.2.2.1), hid (HAf.out _ HID.out).out.2.2.2.1, hid (HAf.out _ HID.out).out.2.2.2.2.1, (HAf.out _ HID.out).out.2.2.2.2.2.1⟩
                        case measure => simp [intOf]; omega
                      | true =>
                        replace HMi := hid (show M i = CB by rw [HMi.out, decide_eq_false hik, Bool.and_true]; rfl)
                        go_wp2
                        clear k5
                        refine region_K 99 (fun V => Box8 V bl (ofl + k * 8) ⟨xk, bk, ek, false, rk, wk, ik, ok⟩ (.slice v1 h1 f1) (.slice v2 h2 f2) ∧ BoxK V wo.heap.size xi be en al (.slice a1 n1 c1) (.slice a2 n2 c2) inn ou) (by kernel_rfl) ?_ (fun hHeld => ?_)
                        · exact HS0.out
                        generalize wr.drew = v0 at *
                        refine anyK_take2 (i := 0) (v := ?v0_87) rfl (by kernel_rfl) (by kernel_rfl) (by kernel_rfl) (by rfl) (fun _ _ _ h => h) (by rfl) hHeld ?hy0_87 (some 83) (by rfl) ?rest0_87
                        case hy0_87 => (intro W hSw; obtain ⟨⟨x0, x1, x2, x3, x4, x5, x6, x7⟩, x8, x9, x10, x11, x12, x13, x14, x15⟩ := hSw; go_simp; (try with_reducible rfl))
                        try simp only [Act.put, List.setIfInBounds_toArray, List.set_cons_succ, List.set_cons_zero]
                        refine anyK_take2 (i := 1) (v := ?v1_88) rfl (by kernel_rfl) (by kernel_rfl) (by kernel_rfl) (by rfl) (fun _ _ _ h => h) (by rfl) hHeld ?hy1_88 (some 84) (by rfl) ?rest1_88
                        case hy1_88 => (intro W hSw; obtain ⟨⟨x0, x1, x2, x3, x4, x5, x6, x7⟩, x8, x9, x10, x11, x12, x13, x14, x15⟩ := hSw; go_simp; (try with_reducible rfl))
                        try simp only [Act.put, List.setIfInBounds_toArray, List.set_cons_succ, List.set_cons_zero]
                        refine anyK_take2 (i := 2) (v := ?v2_89) rfl (by kernel_rfl) (by kernel_rfl) (by kernel_rfl) (by rfl) (fun _ _ _ h => h) (by rfl) hHeld ?hy2_89 (some 85) (by rfl) ?rest2_89
                        case hy2_89 => (intro W hSw; obtain ⟨⟨x0, x1, x2, x3, x4, x5, x6, x7⟩, x8, x9, x10, x11, x12, x13, x14, x15⟩ := hSw; go_simp; (try with_reducible rfl))
                        try simp only [Act.put, List.setIfInBounds_toArray, List.set_cons_succ, List.set_cons_zero]
                        refine anyK_take2 (i := 3) (v := ?v3_90) rfl (by kernel_rfl) (by kernel_rfl) (by kernel_rfl) (by rfl) (fun _ _ _ h => h) (by rfl) hHeld ?hy3_90 (some 86) (by rfl) ?rest3_90
                        case hy3_90 => (intro W hSw; obtain ⟨⟨x0, x1, x2, x3, x4, x5, x6, x7⟩, x8, x9, x10, x11, x12, x13, x14, x15⟩ := hSw; go_simp; (try with_reducible rfl))
                        try simp only [Act.put, List.setIfInBounds_toArray, List.set_cons_succ, List.set_cons_zero]
                        refine anyK_take2 (i := 4) (v := ?v4_91) rfl (by kernel_rfl) (by kernel_rfl) (by kernel_rfl) (by rfl) (fun _ _ _ h => h) (by rfl) hHeld ?hy4_91 (some 87) (by rfl) ?rest4_91
                        case hy4_91 => (intro W hSw; obtain ⟨⟨x0, x1, x2, x3, x4, x5, x6, x7⟩, x8, x9, x10, x11, x12, x13, x14, x15⟩ := hSw; go_simp; (try with_reducible rfl))
                        try simp only [Act.put, List.setIfInBounds_toArray, List.set_cons_succ, List.set_cons_zero]
                        refine anyK_take2 (i := 5) (v := ?v5_92) rfl (by kernel_rfl) (by kernel_rfl) (by kernel_rfl) (by rfl) (fun _ _ _ h => h) (by rfl) hHeld ?hy5_92 (some 88) (by rfl) ?rest5_92
                        case hy5_92 => (intro W hSw; obtain ⟨⟨x0, x1, x2, x3, x4, x5, x6, x7⟩, x8, x9, x10, x11, x12, x13, x14, x15⟩ := hSw; go_simp; (try with_reducible rfl))
                        try simp only [Act.put, List.setIfInBounds_toArray, List.set_cons_succ, List.set_cons_zero]
                        refine anyK_take2 (i := 6) (v := ?v6_93) rfl (by kernel_rfl) (by kernel_rfl) (by kernel_rfl) (by rfl) (fun _ _ _ h => h) (by rfl) hHeld ?hy6_93 (some 89) (by rfl) ?rest6_93
                        case hy6_93 => (intro W hSw; obtain ⟨⟨x0, x1, x2, x3, x4, x5, x6, x7⟩, x8, x9, x10, x11, x12, x13, x14, x15⟩ := hSw; go_simp; (try with_reducible rfl))
                        try simp only [Act.put, List.setIfInBounds_toArray, List.set_cons_succ, List.set_cons_zero]
                        refine anyK_take2 (i := 7) (v := ?v7_94) rfl (by kernel_rfl) (by kernel_rfl) (by kernel_rfl) (by rfl) (fun _ _ _ h => h) (by rfl) hHeld ?hy7_94 (some 90) (by rfl) ?rest7_94
                        case hy7_94 => (intro W hSw; obtain ⟨⟨x0, x1, x2, x3, x4, x5, x6, x7⟩, x8, x9, x10, x11, x12, x13, x14, x15⟩ := hSw; go_simp; (try with_reducible rfl))
                        try simp only [Act.put, List.setIfInBounds_toArray, List.set_cons_succ, List.set_cons_zero]
                        refine anyK_take2 (i := 8) (v := ?v8_95) rfl (by kernel_rfl) (by kernel_rfl) (by kernel_rfl) (by rfl) (fun _ _ _ h => h) (by rfl) hHeld ?hy8_95 (some 91) (by rfl) ?rest8_95
                        case hy8_95 => (intro W hSw; obtain ⟨⟨x0, x1, x2, x3, x4, x5, x6, x7⟩, x8, x9, x10, x11, x12, x13, x14, x15⟩ := hSw; go_simp; (try with_reducible rfl))
                        try simp only [Act.put, List.setIfInBounds_toArray, List.set_cons_succ, List.set_cons_zero]
                        refine anyK_take2 (i := 9) (v := ?v9_96) rfl (by kernel_rfl) (by kernel_rfl) (by kernel_rfl) (by rfl) (fun _ _ _ h => h) (by rfl) hHeld ?hy9_96 (some 92) (by rfl) ?rest9_96
                        case hy9_96 => (intro W hSw; obtain ⟨⟨x0, x1, x2, x3, x4, x5, x6, x7⟩, x8, x9, x10, x11, x12, x13, x14, x15⟩ := hSw; go_simp; (try with_reducible rfl))
                        try simp only [Act.put, List.setIfInBounds_toArray, List.set_cons_succ, List.set_cons_zero]
                        refine anyK_take2 (i := 10) (v := ?v10_97) rfl (by kernel_rfl) (by kernel_rfl) (by kernel_rfl) (by rfl) (fun _ _ _ h => h) (by rfl) hHeld ?hy10_97 (some 93) (by rfl) ?rest10_97
                        case hy10_97 => (intro W hSw; obtain ⟨⟨x0, x1, x2, x3, x4, x5, x6, x7⟩, x8, x9, x10, x11, x12, x13, x14, x15⟩ := hSw; go_simp; (try with_reducible rfl))
                        try simp only [Act.put, List.setIfInBounds_toArray, List.set_cons_succ, List.set_cons_zero]
                        refine anyK_take2 (i := 11) (v := ?v11_98) rfl (by kernel_rfl) (by kernel_rfl) (by kernel_rfl) (by rfl) (fun _ _ _ h => h) (by rfl) hHeld ?hy11_98 (some 94) (by rfl) ?rest11_98
                        case hy11_98 => (intro W hSw; obtain ⟨⟨x0, x1, x2, x3, x4, x5, x6, x7⟩, x8, x9, x10, x11, x12, x13, x14, x15⟩ := hSw; go_simp; (try with_reducible rfl))
                        try simp only [Act.put, List.setIfInBounds_toArray, List.set_cons_succ, List.set_cons_zero]
                        refine anyK_take2 (i := 12) (v := ?v12_99) rfl (by kernel_rfl) (by kernel_rfl) (by kernel_rfl) (by rfl) (fun _ _ _ h => h) (by rfl) hHeld ?hy12_99 (some 95) (by rfl) ?rest12_99
                        case hy12_99 => (intro W hSw; obtain ⟨⟨x0, x1, x2, x3, x4, x5, x6, x7⟩, x8, x9, x10, x11, x12, x13, x14, x15⟩ := hSw; go_simp; (try with_reducible rfl))
                        try simp only [Act.put, List.setIfInBounds_toArray, List.set_cons_succ, List.set_cons_zero]
                        refine anyK_step (i := 13) (by kernel_rfl) rfl (fun KP hK => ?_)
                        go_simp
                        refine (spec_Concurrent ⟨xk, bk, ek, false, rk, wk, ik, ok⟩ ⟨xi, be, en, al, rs, ws, inn, ou⟩ (.slice v1 h1 f1) (.slice v2 h2 f2) (.slice a1 n1 c1) (.slice a2 n2 c2) _).mono ?_
                        rintro e u ⟨rfl, b1⟩
                        rw [HCB.out]
                        have HS1 := hid (show (fun V => Box8 V bl (ofl + k * 8) ⟨xk, bk, ek, false, rk, wk, ik, ok⟩ (.slice v1 h1 f1) (.slice v2 h2 f2) ∧ BoxK V wo.heap.size xi be en al (.slice a1 n1 c1) (.slice a2 n2 c2) inn ou) u from ⟨HS0.out.1.below b1 (Nat.le_refl _), HS0.out.2.below b1 (Nat.le_refl _)⟩)
                        have HUD := hid (HID.out.trans (b1.mono HID.out.size))
                        clear b1
                        go_wp2_with fail
                        clear hHeld
                        refine hK.out _ _ HS1.out (fun hHeld => ?_)
                        clear hK KP
                        try simp only [Act.put, List.setIfInBounds_toArray, List.set_cons_succ, List.set_cons_zero]
                        cases CB with
                        | false =>
                          have hMf := HMi.out
                          have HQe := hid (qJ_no true M ps hMf)
                          have HTe := hid (show tJ true M t0 (i + 1) = tJ true M t0 i by rw [tJ_succ, hMf]; rfl)
                          have HCe := hid (show cdJ true M ts (i + 1) = cdJ true M ts i by rw [cdJ_succ, hMf]; rfl)
                          clear hMf
                          refine anyK_take2 (i := 14) (v := ?v14_100) rfl (by kernel_rfl) (by kernel_rfl) (by kernel_rfl) (by rfl) (fun _ _ _ h => h) (by rfl) hHeld ?hy14_100 (some 97) (by rfl) ?rest14_100
                          case hy14_100 => (intro W hSw; obtain ⟨⟨x0, x1, x2, x3, x4, x5, x6, x7⟩, x8, x9, x10, x11, x12, x13, x14, x15⟩ := hSw; go_simp; (try with_reducible rfl))
                          try simp only [Act.put, List.setIfInBounds_toArray, List.set_cons_succ, List.set_cons_zero]
                          refine anyK_take2 (i := 15) (v := ?v15_101) rfl (by kernel_rfl) (by kernel_rfl) (by kernel_rfl) (by rfl) (fun _ _ _ h => h) (by rfl) hHeld ?hy15_101 (some 98) (by rfl) ?rest15_101
                          case hy15_101 => (intro W hSw; obtain ⟨⟨x0, x1, x2, x3, x4, x5, x6, x7⟩, x8, x9, x10, x11, x12, x13, x14, x15⟩ := hSw; go_simp; (try with_reducible rfl))
                          try simp only [Act.put, List.setIfInBounds_toArray, List.set_cons_succ, List.set_cons_zero]
                          refine anyK_done (by kernel_rfl) ?_ _
                          clear hHeld
                          go_wp2_with fail
                          go_roundw
                          case rel => exact ⟨i + 1, by omega, by go_num, by rw [HCe.out], hid (by rw [HQe.out]; exact (HAf.out _ HUD.out).out.1), hid (HAf.out _ HUD.out).out.2.1, hid (by rw [HTe.out]; exact (HAf.out _ HUD.out).out.2.2.1), hid (HAf.out _ HUD.out).out.2.2.2.1, hid (HAf.out _ HUD.out).out.2.2.2.2.1, (HAf.out _ HUD.out).out.2.2.2.2.2.1⟩
                          case measure => simp [intOf]; omega
                        | true =>
                          have hMt := HMi.out
                          have HQe := hid (qJ_yes true M ps hMt)
                          have HTe := hid (show tJ true M t0 (i + 1) = oth false (tJ true M t0 i) by rw [tJ_succ, hMt]; rfl)
                          replace HCs := hid (show cdJ true M ts (i + 1) = if (decide (0 < en) && ou) = true then 2 else cdJ true M ts i by rw [HCs.out, hMt, Bool.true_and, HDg.out])
                          clear hMt
                          refine anyK_take2 (i := 14) (v := ?v14_102) rfl (by kernel_rfl) (by kernel_rfl) (by kernel_rfl) (by rfl) (fun _ _ _ h => h) (by rfl) hHeld ?hy14_102 (some 97) (by rfl) ?rest14_102
                          case hy14_102 => (intro W hSw; obtain ⟨⟨x0, x1, x2, x3, x4, x5, x6, x7⟩, x8, x9, x10, x11, x12, x13, x14, x15⟩ := hSw; go_simp; (try with_reducible rfl))
                          try simp only [Act.put, List.setIfInBounds_toArray, List.set_cons_succ, List.set_cons_zero]
                          refine anyK_take2 (i := 15) (v := ?v15_103) rfl (by kernel_rfl) (by kernel_rfl) (by kernel_rfl) (by rfl) (fun _ _ _ h => h) (by rfl) hHeld ?hy15_103 (some 98) (by rfl) ?rest15_103
                          case hy15_103 => (intro W hSw; obtain ⟨⟨x0, x1, x2, x3, x4, x5, x6, x7⟩, x8, x9, x10, x11, x12, x13, x14, x15⟩ := hSw; go_simp; (try with_reducible rfl))
                          try simp only [Act.put, List.setIfInBounds_toArray, List.set_cons_succ, List.set_cons_zero]
                          refine anyK_done (by kernel_rfl) ?_ _
                          clear hHeld
                          obtain ⟨f1, f2, f3, f4, f5, f6, f7, f8⟩ := (HAf.out _ HUD.out).out
                          have hne1 : ¬ wo.heap.size = w3.heap.size := by omega
                          have hne2 : ¬ w3.heap.size = wo.heap.size := by omega
                          have hgw := HGL.out
                          have z0 := cell_of_row _ _ 0 _ _ _ f7
                          have z1 := cell_of_row _ _ 1 _ _ _ f7
                          have z2 := cell_of_row _ _ 2 _ _ _ f7
                          have z3 := cell_of_row _ _ 3 _ _ _ f7
                          have z4 := cell_of_row _ _ 4 _ _ _ f7
                          have z5 := cell_of_row _ _ 5 _ _ _ f7
                          have z6 := cell_of_row _ _ 6 _ _ _ f7
                          have z7 := cell_of_row _ _ 7 _ _ _ f7
                          have zf : u.frozen? ⟨wo.heap.size, 6, none⟩ = false := frozen_of_row _ _ _ _ _ f7
                          have k7 : ∃ v, u.cell? ⟨w3.heap.size, 7, none⟩ = some v := ⟨_, by rw [cell_of_row _ _ _ _ _ _ f3]; rfl⟩
                          obtain ⟨v7, k7⟩ := k7
                          have kf : u.frozen? ⟨w3.heap.size, 7, none⟩ = false := frozen_of_row _ _ _ _ _ f3
                          -- the three steps
                          have Ka := Keeps.set (X := fun b => b = wo.heap.size) u (p := ⟨wo.heap.size, 6, none⟩) rfl (.bool true)
                          have Kb := Keeps.set (X := fun b => b = w3.heap.size) (u.setCell ⟨wo.heap.size, 6, none⟩ (.bool true)) (p := ⟨w3.heap.size, 7, none⟩) rfl (.bool true)
                          have zu2 : ((u.setCell ⟨wo.heap.size, 6, none⟩ (.bool true)).setCell ⟨w3.heap.size, 7, none⟩ (.bool true)).heap.size = u.heap.size := by rw [set_size13, set_size13]
                          have oR2 := owns_keep (owns_keep f1 Ka (fun b hb e => by
                            obtain rfl : g = b := by simpa [Value.ownBlock] using hb
                            omega)) Kb (fun b hb e => by
                            obtain rfl : g = b := by simpa [Value.ownBlock] using hb
                            omega)
                          have oR3 := owns_row8 oR2 (by rw [qJ_len]; exact HPS.out.2) hlt (⟨xi, be, en, al, rs, ws, true, ou⟩, (ps.getD i pm0).2)
                          have hth := row_there oR2 hlt
                          have ev : cellsT1 (⟨xi, be, en, al, rs, ws, true, ou⟩ : Tk) (ps.getD i pm0).2 = [.int .i64 xi, .int .i64 be, .int .i64 en, .bool al, .slice a1 n1 c1, .slice a2 n2 c2, .bool true, .bool ou] := by simp only [cellsT1, HMy.out.1, HMy.out.2]
                          simp only at oR3
                          rw [ev] at oR3
                          have Kc := Keeps.cells g [.int .i64 xi, .int .i64 be, .int .i64 en, .bool al, .slice a1 n1 c1, .slice a2 n2 c2, .bool true, .bool ou] (i * 8) ((u.setCell ⟨wo.heap.size, 6, none⟩ (.bool true)).setCell ⟨w3.heap.size, 7, none⟩ (.bool true))
                          have zu3 := size_setCells13 g [.int .i64 xi, .int .i64 be, .int .i64 en, .bool al, .slice a1 n1 c1, .slice a2 n2 c2, .bool true, .bool ou] (i * 8) ((u.setCell ⟨wo.heap.size, 6, none⟩ (.bool true)).setCell ⟨w3.heap.size, 7, none⟩ (.bool true))
                          have KK : ∀ b, b < u.heap.size → b ≠ g → b ≠ wo.heap.size → b ≠ w3.heap.size → (((u.setCell ⟨wo.heap.size, 6, none⟩ (.bool true)).setCell ⟨w3.heap.size, 7, none⟩ (.bool true)).setCells g (i * 8) [.int .i64 xi, .int .i64 be, .int .i64 en, .bool al, .slice a1 n1 c1, .slice a2 n2 c2, .bool true, .bool ou]).heap[b]? = u.heap[b]? := fun b hb q1 q2 q3 => (Kc.block b (by omega) q1).trans ((Kb.block b (by rw [set_size13]; exact hb) q3).trans (Ka.block b hb q2))
                          have r13 : (((u.setCell ⟨wo.heap.size, 6, none⟩ (.bool true)).setCell ⟨w3.heap.size, 7, none⟩ (.bool true)).setCells g (i * 8) [.int .i64 xi, .int .i64 be, .int .i64 en, .bool al, .slice a1 n1 c1, .slice a2 n2 c2, .bool true, .bool ou]).heap[wo.heap.size]? = some (.cells #[.int .i64 xi, .int .i64 be, .int .i64 en, .bool al, .slice a1 n1 c1, .slice a2 n2 c2, .bool true, .bool ou] 46) := by
                            rw [Kc.block _ (by omega) (by omega), Kb.block _ (by rw [set_size13]; exact f8) hne1, heap_setCell_same _ _ _ _ _ _ f7]; rfl
                          have r10 : (((u.setCell ⟨wo.heap.size, 6, none⟩ (.bool true)).setCell ⟨w3.heap.size, 7, none⟩ (.bool true)).setCells g (i * 8) [.int .i64 xi, .int .i64 be, .int .i64 en, .bool al, .slice a1 n1 c1, .slice a2 n2 c2, .bool true, .bool ou]).heap[w3.heap.size]? = some (.cells (cellsT1 (tJ true M t0 (i + 1)) m0).toArray 46) := by
                            rw [Kc.block _ (by omega) (by omega), heap_setCell_same _ _ _ (cellsT1 (tJ true M t0 i) m0).toArray 46 _ ((Ka.block _ (by omega) hne2).trans f3), HTe.out, List.setIfInBounds_toArray]
                            rfl
                          have hq2 : (((u.setCell ⟨wo.heap.size, 6, none⟩ (.bool true)).setCell ⟨w3.heap.size, 7, none⟩ (.bool true)).setCells g (i * 8) [.int .i64 xi, .int .i64 be, .int .i64 en, .bool al, .slice a1 n1 c1, .slice a2 n2 c2, .bool true, .bool ou]).cell? ⟨wo.heap.size, 2, none⟩ = some (.int .i64 en) := by rw [cell_of_row _ _ _ _ _ _ r13]; rfl
                          have hq7 : (((u.setCell ⟨wo.heap.size, 6, none⟩ (.bool true)).setCell ⟨w3.heap.size, 7, none⟩ (.bool true)).setCells g (i * 8) [.int .i64 xi, .int .i64 be, .int .i64 en, .bool al, .slice a1 n1 c1, .slice a2 n2 c2, .bool true, .bool ou]).cell? ⟨wo.heap.size, 7, none⟩ = some (.bool ou) := by rw [cell_of_row _ _ _ _ _ _ r13]; rfl
                          have GG1 := hid (show (((u.setCell ⟨wo.heap.size, 6, none⟩ (.bool true)).setCell ⟨w3.heap.size, 7, none⟩ (.bool true)).setCells g (i * 8) [.int .i64 xi, .int .i64 be, .int .i64 en, .bool al, .slice a1 n1 c1, .slice a2 n2 c2, .bool true, .bool ou]).ownsRow w2.heap.size 46 8 (.slice (some ⟨g, 0, none⟩) n c3) n (cP (qJ true M ps (i + 1))) by rw [HQe.out, HPi.out]; exact oR3)
                          have hXall : ∀ b, (b = g ∨ b = wo.heap.size ∨ b = w3.heap.size) → w.heap.size ≤ b := fun b hb => by rcases hb with rfl | rfl | rfl <;> omega
                          have GG2 := hid (show BandsP (((u.setCell ⟨wo.heap.size, 6, none⟩ (.bool true)).setCell ⟨w3.heap.size, 7, none⟩ (.bool true)).setCells g (i * 8) [.int .i64 xi, .int .i64 be, .int .i64 en, .bool al, .slice a1 n1 c1, .slice a2 n2 c2, .bool true, .bool ou]) w2.heap.size hi1 (ps.set k (t0, m0)) by
                            have o1 := f2.keep Ka (fun p hp b hb e => by have := (f2.own p hp).inr hb; omega)
                            have hr10 : ∀ p ∈ ps.set k (t0, m0), ∀ b, blkT p.2 b → b ≠ w3.heap.size := fun p hp b hb e => by
                              have := (f2.own p hp).inr hb
                              exact HP10.out p hp b hb e
                            have o2 := o1.keep Kb (fun p hp b hb e => hr10 p hp b hb e)
                            exact o2.off oR2 Kc)
                          have GG3 := hid r10
                          have GG4 := hid (show BoxS (((u.setCell ⟨wo.heap.size, 6, none⟩ (.bool true)).setCell ⟨w3.heap.size, 7, none⟩ (.bool true)).setCells g (i * 8) [.int .i64 xi, .int .i64 be, .int .i64 en, .bool al, .slice a1 n1 c1, .slice a2 n2 c2, .bool true, .bool ou]) w.heap.size K1 N1 F1 (.slice p1 m1 d1) K2 N2 F2 (.slice p2 m2 d2) from by
                            have e := KK w.heap.size (by omega) (by omega) (by omega) (by omega)
                            have q := f4
                            exact ⟨(World.cell?_of_block (w := u) (a := ⟨w.heap.size, 0, none⟩) e).trans q.c0, (World.cell?_of_block (w := u) (a := ⟨w.heap.size, 1, none⟩) e).trans q.c1, (World.cell?_of_block (w := u) (a := ⟨w.heap.size, 2, none⟩) e).trans q.c2, (World.cell?_of_block (w := u) (a := ⟨w.heap.size, 3, none⟩) e).trans q.c3, (World.cell?_of_block (w := u) (a := ⟨w.heap.size, 4, none⟩) e).trans q.c4, (World.cell?_of_block (w := u) (a := ⟨w.heap.size, 5, none⟩) e).trans q.c5, (World.cell?_of_block (w := u) (a := ⟨w.heap.size, 6, none⟩) e).trans q.c6, (World.cell?_of_block (w := u) (a := ⟨w.heap.size, 7, none⟩) e).trans q.c7⟩)
                          have GG5 := hid (show Below w.heap.size w (((u.setCell ⟨wo.heap.size, 6, none⟩ (.bool true)).setCell ⟨w3.heap.size, 7, none⟩ (.bool true)).setCells g (i * 8) [.int .i64 xi, .int .i64 be, .int .i64 en, .bool al, .slice a1 n1 c1, .slice a2 n2 c2, .bool true, .bool ou]) from Keeps.below ((f5.setCell (p := ⟨wo.heap.size, 6, none⟩) (by show w.heap.size ≤ wo.heap.size; omega) (.bool true)).setCell (p := ⟨w3.heap.size, 7, none⟩) (by show w.heap.size ≤ w3.heap.size; omega) (.bool true)) Kc (fun b hb => by subst hb; omega) (by omega))
                          have GG6 : W.heap.size ≤ (((u.setCell ⟨wo.heap.size, 6, none⟩ (.bool true)).setCell ⟨w3.heap.size, 7, none⟩ (.bool true)).setCells g (i * 8) [.int .i64 xi, .int .i64 be, .int .i64 en, .bool al, .slice a1 n1 c1, .slice a2 n2 c2, .bool true, .bool ou]).heap.size := by omega
                          have HTh := hid hth
                          clear f1 f2 f3 f4 f5 f6 f7 f8 Ka Kb Kc KK oR2 oR3 hth ev r13 r10 hXall hgw
                          go_wp2_with (refine wpList_store_mid rfl 46 (.tmp 104) (.tmp 103) rfl g (i * 8) #[.int .i64 xi, .int .i64 be, .int .i64 en, .bool al, .slice a1 n1 c1, .slice a2 n2 c2, .bool true, .bool ou] rfl rfl ?th ?si ?on (stopG ?_))
                          case th => exact HTh.out
                          case si => first | exact size_tk | simpa using size_tk
                          case on => simp [Value.oneCell']
                          unfold StopG
                          try rw [show (#[.int .i64 xi, .int .i64 be, .int .i64 en, .bool al, .slice a1 n1 c1, .slice a2 n2 c2, .bool true, .bool ou] : Array Value).toList = [.int .i64 xi, .int .i64 be, .int .i64 en, .bool al, .slice a1 n1 c1, .slice a2 n2 c2, .bool true, .bool ou] from rfl]
                          clear z0 z1 z2 z3 z4 z5 z6 z7 zf k7 kf
                          generalize ((u.setCell ⟨wo.heap.size, 6, none⟩ (.bool true)).setCell ⟨w3.heap.size, 7, none⟩ (.bool true)).setCells g (i * 8) [.int .i64 xi, .int .i64 be, .int .i64 en, .bool al, .slice a1 n1 c1, .slice a2 n2 c2, .bool true, .bool ou] = u3 at *
                          by_cases hen : 0 < en
                          · cases ou with
                            | true =>
                              have HCe := hid (show cdJ true M ts (i + 1) = 2 by rw [HCs.out, decide_eq_true hen]; rfl)
                              go_wp2_with fail
                              go_roundw
                              case rel => exact ⟨i + 1, by omega, by go_num, by rw [HCe.out], GG1, GG2, GG3, GG4, GG5, GG6⟩
                              case measure => simp [intOf]; omega
                            | false =>
                              have HCe := hid (show cdJ true M ts (i + 1) = cdJ true M ts i by rw [HCs.out, Bool.and_false]; rfl)
                              go_wp2_with fail
                              go_roundw
                              case rel => exact ⟨i + 1, by omega, by go_num, by rw [HCe.out], GG1, GG2, GG3, GG4, GG5, GG6⟩
                              case measure => simp [intOf]; omega
                          · have HCe := hid (show cdJ true M ts (i + 1) = cdJ true M ts i by rw [HCs.out, decide_eq_false hen]; rfl)
                            go_wp2_with fail
                            go_roundw
                            case rel => exact ⟨i + 1, by omega, by go_num, by rw [HCe.out], GG1, GG2, GG3, GG4, GG5, GG6⟩
                            case measure => simp [intOf]; omega
              · have hlt' : ¬ (i : Int) < (n : Int) := by omega
                obtain rfl : i = n := by omega
                have hps := HPS.out
                have hgw := HGL.out
                obtain ⟨tf, htf⟩ : ∃ tf, tJ true M t0 i = tf := ⟨_, rfl⟩
                have HES2 := hid (show readS ts x (⟨K1, N1, F1, Z1⟩, ⟨K2, N2, F2, Z2⟩) = ((qJ true M ps i).set k (tf, m0)).map (·.1) by rw [HES.out, HL.out, List.map_set, qJ_map, hps.1, ← htf]; rfl)
                have HEC2 := hid (show readC ts x (⟨K1, N1, F1, Z1⟩, ⟨K2, N2, F2, Z2⟩) = if (tf.inn && tf.out) = true then 2 else cdJ true M ts i by rw [HEC.out]; unfold lastC; rw [HL.out, htf])
                have hBf := qJ_last true M (by omega) i (by omega) HBP.out
                rw [htf] at hBf
                have ht10 := HT.out
                rw [htf] at ht10
                obtain ⟨xf, bf, ef, af, rf, wf, inf, ouf⟩ := tf
                obtain ⟨m0y, m0X, m0z, m0Y⟩ := m0
                obtain ⟨s1, s2, s3, s4, s5, s6, es1, es2⟩ := HM0s.out
                simp only at es1 es2
                subst es1 es2
                have z0 : wo.cell? ⟨w3.heap.size, 0, none⟩ = some (.int .i64 xf) := by rw [cell_of_row _ _ _ _ _ _ ht10]; rfl
                have z1 : wo.cell? ⟨w3.heap.size, 1, none⟩ = some (.int .i64 bf) := by rw [cell_of_row _ _ _ _ _ _ ht10]; rfl
                have z2 : wo.cell? ⟨w3.heap.size, 2, none⟩ = some (.int .i64 ef) := by rw [cell_of_row _ _ _ _ _ _ ht10]; rfl
                have z3 : wo.cell? ⟨w3.heap.size, 3, none⟩ = some (.bool af) := by rw [cell_of_row _ _ _ _ _ _ ht10]; rfl
                have z4 : wo.cell? ⟨w3.heap.size, 4, none⟩ = some (.slice s1 s2 s3) := by rw [cell_of_row _ _ _ _ _ _ ht10]; rfl
                have z5 : wo.cell? ⟨w3.heap.size, 5, none⟩ = some (.slice s4 s5 s6) := by rw [cell_of_row _ _ _ _ _ _ ht10]; rfl
                have z6 : wo.cell? ⟨w3.heap.size, 6, none⟩ = some (.bool inf) := by rw [cell_of_row _ _ _ _ _ _ ht10]; rfl
                have z7 : wo.cell? ⟨w3.heap.size, 7, none⟩ = some (.bool ouf) := by rw [cell_of_row _ _ _ _ _ _ ht10]; rfl
                have oF := owns_row8 HR.out (by rw [qJ_len]; exact hps.2) (i := k) (by have := HKN.out; have := HL.out; omega) (⟨xf, bf, ef, af, rf, wf, inf, ouf⟩, ⟨.slice s1 s2 s3, m0X, .slice s4 s5 s6, m0Y⟩)
                have hth := row_there HR.out (i := k) (by have := HKN.out; have := HL.out; omega)
                have Kc := Keeps.cells g [.int .i64 xf, .int .i64 bf, .int .i64 ef, .bool af, .slice s1 s2 s3, .slice s4 s5 s6, .bool inf, .bool ouf] (k * 8) wo
                have hOw := (hBf.off HR.out Kc).own_t (v := (.slice (some ⟨g, 0, none⟩) i c3)) (by rw [List.length_set, qJ_len, hps.2]; exact oF) (fun g' hg' => by
                  obtain rfl : g = g' := by simpa [Value.ownBlock] using hg'
                  omega)
                have HF := hid hOw.rd
                have HBF := hid (Keeps.below HB.out Kc (fun b hb => by subst hb; omega) HB.out.size)
                have k6 : (wo.setCells g (k * 8) [.int .i64 xf, .int .i64 bf, .int .i64 ef, .bool af, .slice s1 s2 s3, .slice s4 s5 s6, .bool inf, .bool ouf]).cell? ⟨w3.heap.size, 6, none⟩ = some (.bool inf) := (World.cell?_of_block (w := wo) (a := ⟨w3.heap.size, 6, none⟩) (Kc.block w3.heap.size (by omega) (by omega))).trans z6
                have k7 : (wo.setCells g (k * 8) [.int .i64 xf, .int .i64 bf, .int .i64 ef, .bool af, .slice s1 s2 s3, .slice s4 s5 s6, .bool inf, .bool ouf]).cell? ⟨w3.heap.size, 7, none⟩ = some (.bool ouf) := (World.cell?_of_block (w := wo) (a := ⟨w3.heap.size, 7, none⟩) (Kc.block w3.heap.size (by omega) (by omega))).trans z7
                have HTh := hid hth
                have HLs := hid (show (((qJ true M ps i).set k (⟨xf, bf, ef, af, rf, wf, inf, ouf⟩, ⟨.slice s1 s2 s3, m0X, .slice s4 s5 s6, m0Y⟩)).map (·.1)).length = i by rw [List.length_map, List.length_set, qJ_len]; exact hps.2)
                have hkz : (0 : Int) ≤ (k : Int) := by omega
                have hkl : (k : Int) < (i : Int) := by have := HKN.out; have := HL.out; omega
                generalize cdJ true M ts i = CD at *
                clear hOw Kc hth oF ht10 hBf htf hps
                go_wp2_with (refine wpList_store_mid rfl 46 (.tmp 115) (.tmp 114) rfl g (k * 8) #[.int .i64 xf, .int .i64 bf, .int .i64 ef, .bool af, .slice s1 s2 s3, .slice s4 s5 s6, .bool inf, .bool ouf] rfl rfl ?th ?si ?on (stopG ?_))
                case th => exact HTh.out
                case si => first | exact size_tk | simpa using size_tk
                case on => simp [Value.oneCell']
                unfold StopG
                try rw [show (#[.int .i64 xf, .int .i64 bf, .int .i64 ef, .bool af, .slice s1 s2 s3, .slice s4 s5 s6, .bool inf, .bool ouf] : Array Value).toList = [.int .i64 xf, .int .i64 bf, .int .i64 ef, .bool af, .slice s1 s2 s3, .slice s4 s5 s6, .bool inf, .bool ouf] from rfl]
                clear z0 z1 z2 z3 z4 z5 z6 z7
                generalize wo.setCells g (k * 8) [.int .i64 xf, .int .i64 bf, .int .i64 ef, .bool af, .slice s1 s2 s3, .slice s4 s5 s6, .bool inf, .bool ouf] = u3 at *
                cases inf with
                | true =>
                  cases ouf with
                  | true =>
                    have HCe := hid (show readC ts x (⟨K1, N1, F1, Z1⟩, ⟨K2, N2, F2, Z2⟩) = 2 by rw [HEC2.out]; rfl)
                    go_wp2_with fail
                    go_ret2
                    refine ⟨?_, HBF.out⟩
                    rw [HCe.out, HES2.out]
                    exact ⟨_, c3, by rw [HLs.out]; rfl, HF.out⟩
                  | false =>
                    have HCe := hid (show readC ts x (⟨K1, N1, F1, Z1⟩, ⟨K2, N2, F2, Z2⟩) = CD by rw [HEC2.out]; rfl)
                    go_wp2_with fail
                    go_ret2
                    refine ⟨?_, HBF.out⟩
                    rw [HCe.out, HES2.out]
                    exact ⟨_, c3, by rw [HLs.out]; rfl, HF.out⟩
                | false =>
                  have HCe := hid (show readC ts x (⟨K1, N1, F1, Z1⟩, ⟨K2, N2, F2, Z2⟩) = CD by rw [HEC2.out]; rfl)
                  go_wp2_with fail
                  go_ret2
                  refine ⟨?_, HBF.out⟩
                  rw [HCe.out, HES2.out]
                  exact ⟨_, c3, by rw [HLs.out]; rfl, HF.out⟩

          · have h6' : (6 : Int) < (l1 : Int) + 1 := by omega
            have h6e : 6 ≤ l1 := by omega
            have HRT2 := hid (readT_six (t := ⟨xk, bk, ek, false, rk, wk, ik, ok⟩) (s := (⟨K1, N1, F1, Z1⟩, ⟨K2, N2, F2, Z2⟩)) rfl (by simp only [HL12.out.1]; exact h6e))
            rw [HRT2.out] at HES HEC
            have K10 := (Keeps.set (X := fun b => b = w3.heap.size) (w8.setCell ⟨w3.heap.size, 4, none⟩ (.slice a8 (l1 + 1) c8)) (p := ⟨w3.heap.size, 3, none⟩) rfl (.bool true)).trans (Keeps.set (X := fun b => b = w3.heap.size) _ (p := ⟨w3.heap.size, 4, none⟩) rfl (.slice none 0 0))
            have r10 : (((w8.setCell ⟨w3.heap.size, 4, none⟩ (.slice a8 (l1 + 1) c8)).setCell ⟨w3.heap.size, 3, none⟩ (.bool true)).setCell ⟨w3.heap.size, 4, none⟩ (.slice none 0 0)).heap[w3.heap.size]? = some (.cells #[.int .i64 xk, .int .i64 bk, .int .i64 ek, .bool true, .slice none 0 0, .slice u2 l2 e2, .bool ik, .bool ok] 46) := by
              rw [heap_setCell_same _ _ _ _ _ _ (heap_setCell_same _ _ _ _ _ _ HT9.out)]; rfl
            have HR10 := hid (owns_keep HR9.out K10 (fun b hb e => by
              obtain rfl : g = b := by simpa [Value.ownBlock] using hb
              omega))
            have HBP9b := hid (HBP9.out.keep K10 (fun p hp b hb e => HP8.out p hp b hb e))
            have HX10 := hid (show BoxS (((w8.setCell ⟨w3.heap.size, 4, none⟩ (.slice a8 (l1 + 1) c8)).setCell ⟨w3.heap.size, 3, none⟩ (.bool true)).setCell ⟨w3.heap.size, 4, none⟩ (.slice none 0 0)) w.heap.size K1 N1 F1 (.slice p1 m1 d1) K2 N2 F2 (.slice p2 m2 d2) by
              have e := K10.block w.heap.size (by omega) (by omega)
              have q := HX9.out
              exact ⟨(World.cell?_of_block (w := (w8.setCell ⟨w3.heap.size, 4, none⟩ (.slice a8 (l1 + 1) c8))) (a := ⟨w.heap.size, 0, none⟩) e).trans q.c0, (World.cell?_of_block (w := (w8.setCell ⟨w3.heap.size, 4, none⟩ (.slice a8 (l1 + 1) c8))) (a := ⟨w.heap.size, 1, none⟩) e).trans q.c1, (World.cell?_of_block (w := (w8.setCell ⟨w3.heap.size, 4, none⟩ (.slice a8 (l1 + 1) c8))) (a := ⟨w.heap.size, 2, none⟩) e).trans q.c2, (World.cell?_of_block (w := (w8.setCell ⟨w3.heap.size, 4, none⟩ (.slice a8 (l1 + 1) c8))) (a := ⟨w.heap.size, 3, none⟩) e).trans q.c3, (World.cell?_of_block (w := (w8.setCell ⟨w3.heap.size, 4, none⟩ (.slice a8 (l1 + 1) c8))) (a := ⟨w.heap.size, 4, none⟩) e).trans q.c4, (World.cell?_of_block (w := (w8.setCell ⟨w3.heap.size, 4, none⟩ (.slice a8 (l1 + 1) c8))) (a := ⟨w.heap.size, 5, none⟩) e).trans q.c5, (World.cell?_of_block (w := (w8.setCell ⟨w3.heap.size, 4, none⟩ (.slice a8 (l1 + 1) c8))) (a := ⟨w.heap.size, 6, none⟩) e).trans q.c6, (World.cell?_of_block (w := (w8.setCell ⟨w3.heap.size, 4, none⟩ (.slice a8 (l1 + 1) c8))) (a := ⟨w.heap.size, 7, none⟩) e).trans q.c7⟩)
            have HB10 := hid ((HB9.out.setCell (p := ⟨w3.heap.size, 3, none⟩) (by show w.heap.size ≤ w3.heap.size; omega) (.bool true)).setCell (p := ⟨w3.heap.size, 4, none⟩) (by show w.heap.size ≤ w3.heap.size; omega) (.slice none 0 0))
            have z10 : (((w8.setCell ⟨w3.heap.size, 4, none⟩ (.slice a8 (l1 + 1) c8)).setCell ⟨w3.heap.size, 3, none⟩ (.bool true)).setCell ⟨w3.heap.size, 4, none⟩ (.slice none 0 0)).heap.size = w8.heap.size := by rw [set_size13, set_size13, set_size13]
            have HT10 := hid r10
            have h34 : ¬ (4 : Nat) = 3 := by omega
            clear K10 r10
            go_wp2_with fail
            clear k3 k4 kf3 kf4
            obtain ⟨W, hW⟩ : ∃ W, ((w8.setCell ⟨w3.heap.size, 4, none⟩ (.slice a8 (l1 + 1) c8)).setCell ⟨w3.heap.size, 3, none⟩ (.bool true)).setCell ⟨w3.heap.size, 4, none⟩ (.slice none 0 0) = W := ⟨_, rfl⟩
            rw [hW] at HR10 HBP9b HX10 HB10 HT10 z10
            try rw [hW]
            clear hW
            have hk8 : k < (ps.set k (⟨xk, bk, ek, false, rk ++ [(⟨K1, N1, F1, Z1⟩, ⟨K2, N2, F2, Z2⟩)], wk, ik, ok⟩, ⟨.slice a8 (l1 + 1) c8, mX ++ [.slice pv m1 cv, .slice pv2 m2 cv2], .slice u2 l2 e2, mY⟩)).length := by rw [List.length_set]; exact hkp
            have hBn := HBP9b.out.repl hk8 (hi1 := w8.heap.size) (Nat.le_refl _) (Keeps.refl (fun _ => False) _) (fun b q => q.elim) (p' := (⟨xk, bk, ek, true, [], wk, ik, ok⟩, ⟨.slice none 0 0, [], .slice u2 l2 e2, mY⟩)) ⟨OwnX.nil _ _ _ _ _, by
                have q := (HBP9b.out.own _ (List.getElem_mem hk8)).wr
                rw [List.getElem_set_self] at q
                exact q, fun b hb => by obtain ⟨q, hq, _⟩ := hb; cases hq⟩ (fun b hb => by
              rw [List.getElem_set_self]
              rcases hb with (q | ⟨q, hq, _⟩) | q
              · cases q
              · cases hq
              · exact .inl (.inr q))
            rw [List.set_set] at hBn
            have hPn : ∀ p ∈ ps.set k (⟨xk, bk, ek, true, [], wk, ik, ok⟩, ⟨.slice none 0 0, [], .slice u2 l2 e2, mY⟩), ∀ b, blkT p.2 b → b = w3.heap.size → False := fun p hp b hb e => by
              rcases List.mem_or_eq_of_mem_set hp with q | rfl
              · have := (HoB.out.own p q).inr hb
                omega
              · rcases hb with (q | ⟨q, hq, _⟩) | q
                · cases q
                · cases hq
                · have := HOwn.out.inr (.inr q)
                  omega
            obtain ⟨t0, ht0⟩ : ∃ t0 : Tk, ⟨xk, bk, ek, true, [], wk, ik, ok⟩ = t0 := ⟨_, rfl⟩
            obtain ⟨m0, hm0⟩ : ∃ m0 : Mt, ⟨.slice none 0 0, [], .slice u2 l2 e2, mY⟩ = m0 := ⟨_, rfl⟩
            have HM0s := hid (show ∃ s1 s2 s3 s4 s5 s6, m0.y = .slice s1 s2 s3 ∧ m0.z = .slice s4 s5 s6 by rw [← hm0]; exact ⟨_, _, _, _, _, _, rfl, rfl⟩)
            have HM0 := hid (show t0.ws = (ts.getD k tk0).ws ∧ m0.z = (ps.getD k pm0).2.z by rw [HTK.out, HMK.out, ← ht0, ← hm0]; exact ⟨rfl, rfl⟩)
            have HT := hid (show W.heap[w3.heap.size]? = some (.cells (cellsT1 t0 m0).toArray 46) by rw [← ht0, ← hm0]; exact HT10.out)
            have HR := HR10
            have HX := HX10
            have HB := HB10
            rw [ht0, hm0] at hBn hPn
            rw [ht0] at HES HEC
            have HBP := hid hBn
            have HP10 := hid hPn
            obtain ⟨hi1, hhi1⟩ : ∃ hi1, w8.heap.size = hi1 := ⟨_, rfl⟩
            rw [hhi1] at HBP
            have hS4 : hi1 ≤ W.heap.size := by omega
            have hS5 : w3.heap.size ≤ hi1 := by omega
            have hS3 : w3.heap.size < W.heap.size := by omega
            clear hhi1 ht0 hm0 hBn hPn hk8 HRT2 HR9 HBP9 HT9 HX9 HB9 HR10 HBP9b HT10 HX10 HB10 HOwn HoR HoB HPk HP8 HWr8
            have hp10 : w3.heap.size < W.heap.size := by omega
            go_loopw [11, 12] (fun vc vi wr => ∃ i : Nat, i ≤ n ∧ vi = .int .i64 i ∧ vc = .int .i64 (cdJ true M ts i) ∧ Hid (wr.ownsRow w2.heap.size 46 8 (.slice (some ⟨g, 0, none⟩) n c3) n (cP (qJ true M ps i))) ∧ Hid (BandsP wr w2.heap.size hi1 (ps.set k (t0, m0))) ∧ Hid (wr.heap[w3.heap.size]? = some (.cells (cellsT1 (tJ true M t0 i) m0).toArray 46)) ∧ Hid (BoxS wr w.heap.size K1 N1 F1 (.slice p1 m1 d1) K2 N2 F2 (.slice p2 m2 d2)) ∧ Hid (Below w.heap.size w wr) ∧ W.heap.size ≤ wr.heap.size) (fun _ vi _ => n - (intOf vi).toNat)
            case atStart => exact ⟨0, Nat.zero_le _, rfl, rfl, HR, HBP, by rw [show tJ true M t0 0 = t0 from rfl]; exact HT, HX, HB, Nat.le_refl _⟩
            case round =>
              obtain ⟨i, hin, rfl, rfl, HR, HBP, HT, HX, HB, hsw⟩ := hrel
              obtain ⟨wo, hwo⟩ : ∃ wo, wo = wr := ⟨_, rfl⟩
              subst hwo
              have hqn : (qJ true M ps i).length = n := by rw [qJ_len]; exact HPS.out.2
              by_cases hlt : i < n
              · have hlt' : (i : Int) < (n : Int) := by omega
                have hi0 : (0 : Int) ≤ (i : Int) := by omega
                have hbx := row_box HR.out hqn hlt
                rw [qJ_at true M ps i (by have := HPS.out; omega) i (Nat.le_refl _)] at hbx
                obtain ⟨a1, c1, a2, c2, ey, ez, hp1⟩ := HSLs.out i hlt
                rw [ey, ez, hp1] at hbx
                have hrdW : ReadsM wo a2 (ts.getD i tk0).ws := by
                  have hj : i < (ps.set k (t0, m0)).length := by rw [List.length_set]; have := HPS.out; omega
                  have ho := HBP.out.own _ (List.getElem_mem hj)
                  rw [List.getElem_set] at ho
                  by_cases c : k = i
                  · rw [if_pos c] at ho
                    have h1 := ho.wr
                    rw [HM0.out.1, HM0.out.2, c] at h1
                    rw [ez] at h1
                    exact h1.rd
                  · rw [if_neg c] at ho
                    have h1 := ho.wr
                    have e : ps[i]'(by rw [List.length_set] at hj; exact hj) = ps.getD i pm0 := by simp [List.getD, show i < ps.length by have := HPS.out; omega]
                    rw [e, ez, hp1] at h1
                    exact h1.rd
                have hsmi := (HSM.out i).2
                have hlni := (HLN.out i).2
                have HTI0 := hid (show ∃ t, ts.getD i tk0 = t from ⟨_, rfl⟩)
                have HDg := hid (show dng true (ts.getD i tk0) = (decide (0 < (ts.getD i tk0).ended) && (ts.getD i tk0).out) by
                  have := (track_small (HOK.out i (by have := HL.out; omega))).2.2.2
                  unfold dng
                  congr 1
                  rw [Bool.eq_iff_iff, decide_eq_true_iff, decide_eq_true_iff]
                  omega)
                have HMi := hid (show M i = (!(decide (i = k)) && (concB (ts.getD k tk0) (ts.getD i tk0) && hitW (⟨K1, N1, F1, Z1⟩, ⟨K2, N2, F2, Z2⟩) (ts.getD i tk0))) from (HM.out i).symm)
                have HCs := hid (cdJ_succ true M ts i)
                have HPi := hid (show ps.getD i pm0 = (ts.getD i tk0, (ps.getD i pm0).2) by rw [← hp1])
                have HMy := hid (And.intro ey ez)
                clear HTI0
                obtain ⟨ti, hti⟩ : ∃ ti, ts.getD i tk0 = ti := ⟨_, rfl⟩
                rw [hti] at hbx hrdW hsmi hlni HDg HMi HCs HPi HMy
                clear hti ey ez hp1
                obtain ⟨xi, be, en, al, rs, ws, inn, ou⟩ := ti
                obtain ⟨y0, y1, y2, y3, y4, y5, y6, y7⟩ := hbx
                simp only at y0 y1 y2 y3 y4 y5 y6 y7 hrdW hsmi hlni HDg HMy
                obtain ⟨n1, hn1⟩ : ∃ n1, rs.length = n1 := ⟨_, rfl⟩
                obtain ⟨n2, hn2⟩ : ∃ n2, ws.length = n2 := ⟨_, rfl⟩
                rw [hn1] at y4 HMy
                rw [hn2] at y5 hlni HMy
                have HN2 := hid hn2
                have bA := Below.alloc1 wo (.cells #[.int .i64 xi, .int .i64 be, .int .i64 en, .bool al, .slice a1 n1 c1, .slice a2 n2 c2, .bool inn, .bool ou] 46)
                have HRA := hid (heap_alloc_new wo (.cells #[.int .i64 xi, .int .i64 be, .int .i64 en, .bool al, .slice a1 n1 c1, .slice a2 n2 c2, .bool inn, .bool ou] 46))
                have HZA := hid (alloc_size wo (.cells #[.int .i64 xi, .int .i64 be, .int .i64 en, .bool al, .slice a1 n1 c1, .slice a2 n2 c2, .bool inn, .bool ou] 46))
                have HAW := hid bA
                have HRW := hid (hrdW.below bA (Nat.le_refl _))
                have HXA := hid (HX.out.below bA (Nat.le_refl _))
                have HBA := hid (HB.out.trans (bA.mono HB.out.size))
                have HSm := hid hsmi
                clear bA hrdW hn1 hn2 hsmi hqn
                go_wp2_with fail
                clear y0 y1 y2 y3 y4 y5 y6 y7
                obtain ⟨wA, hwA⟩ : ∃ wA, wo.alloc (.cells #[.int .i64 xi, .int .i64 be, .int .i64 en, .bool al, .slice a1 n1 c1, .slice a2 n2 c2, .bool inn, .bool ou] 46) = wA := ⟨_, rfl⟩
                rw [hwA] at HRA HZA HAW HRW HXA HBA
                try rw [hwA]
                clear hwA
                go_loopw [14, 15] (fun vh vj wr => ∃ j : Nat, j ≤ n2 ∧ vj = .int .i64 j ∧ vh = .bool ((ws.take j).any (fun e => inM (⟨K1, N1, F1, Z1⟩, ⟨K2, N2, F2, Z2⟩) e)) ∧ Hid (Below wA.heap.size wA wr)) (fun _ vj _ => n2 - (intOf vj).toNat)
                case atStart => exact ⟨0, Nat.zero_le _, rfl, by simp, hid (Below.refl _ _)⟩
                case round =>
                  obtain ⟨j, hjn, rfl, rfl, HI⟩ := hrel
                  have hr13 := (HI.out.block wo.heap.size (by have := HZA.out; omega)).trans HRA.out
                  have k5 : wr.cell? ⟨wo.heap.size, 5, none⟩ = some (.slice a2 n2 c2) := by rw [cell_of_row _ _ _ _ _ _ hr13]; rfl
                  by_cases hjl : j < n2
                  · have hjl' : (j : Int) < (n2 : Int) := by omega
                    have hj0 : (0 : Int) ≤ (j : Int) := by omega
                    have hwsl := HN2.out
                    obtain ⟨b, off, px, cx, rfl, bx, qx, _, _, hfx⟩ := HRW.out.at (k := j) (by omega)
                    have hzx := HSm.out j
                    have HSt := hid (show (ws.take (j + 1)).any (fun e => inM (⟨K1, N1, F1, Z1⟩, ⟨K2, N2, F2, Z2⟩) e) = ((ws.take j).any (fun e => inM (⟨K1, N1, F1, Z1⟩, ⟨K2, N2, F2, Z2⟩) e) || inM (⟨K1, N1, F1, Z1⟩, ⟨K2, N2, F2, Z2⟩) (ws.getD j im0)) by
                      rw [List.take_succ_eq_append_getElem (by omega), List.any_append, show ws.getD j im0 = ws[j]'(by omega) by simp [List.getD, show j < ws.length by omega]]
                      simp)
                    obtain ⟨A, hA⟩ : ∃ A, (ws.take j).any (fun e => inM (⟨K1, N1, F1, Z1⟩, ⟨K2, N2, F2, Z2⟩) e) = A := ⟨_, rfl⟩
                    rw [hA] at HSt ⊢
                    clear hA
                    generalize ws.getD j im0 = ej at *
                    obtain ⟨KX, NX, FX, ZX⟩ := ej
                    simp only at bx qx hfx hzx
                    obtain ⟨mx, hmx⟩ : ∃ m, ZX.length = m := ⟨_, rfl⟩
                    rw [hmx] at bx qx hzx
                    have HIn := hid (show inM (⟨K1, N1, F1, Z1⟩, ⟨K2, N2, F2, Z2⟩) ⟨KX, NX, FX, ZX⟩ = inSp K1 N1 F1 m1 Z1 K2 N2 F2 m2 Z2 KX NX FX mx ZX by unfold inM; simp only [HQ1.out.len, HQ2.out.len, hmx])
                    have bD := (Below.refl wr.heap.size wr).drew
                    have HS0 := hid (show (fun V => BoxS V w.heap.size K1 N1 F1 (.slice p1 m1 d1) K2 N2 F2 (.slice p2 m2 d2) ∧ V.cell? ⟨wo.heap.size, 5, none⟩ = some (.slice (some ⟨b, off, none⟩) n2 c2) ∧ Box4 V b (off + j * 4) KX NX FX (.slice px mx cx)) wr.drew from ⟨(HXA.out.below HI.out (Nat.le_refl _)).below bD (Nat.le_refl _), k5, (bx.below HI.out (Nat.le_refl _)).below bD (Nat.le_refl _)⟩)
                    have HBi := hid ((HBA.out.trans (HI.out.mono HBA.out.size)).trans (bD.mono (by have := HI.out.size; have := HBA.out.size; omega)))
                    have QX := hid ((qx.below HI.out (Nat.le_refl _)).below bD (Nat.le_refl _))
                    have HID := hid (HI.out.trans (bD.mono HI.out.size))
                    clear bx qx hmx hwsl hr13 bD
                    cases A with
                    | true =>
                      replace HSt := hid (show (ws.take (j + 1)).any (fun e => inM (⟨K1, N1, F1, Z1⟩, ⟨K2, N2, F2, Z2⟩) e) = true by rw [HSt.out]; rfl)
                      go_wp2
                      clear k5
                      refine region_K 99 (fun V => BoxS V w.heap.size K1 N1 F1 (.slice p1 m1 d1) K2 N2 F2 (.slice p2 m2 d2) ∧ V.cell? ⟨wo.heap.size, 5, none⟩ = some (.slice (some ⟨b, off, none⟩) n2 c2) ∧ Box4 V b (off + j * 4) KX NX FX (.slice px mx cx)) (by kernel_rfl) ?_ (fun hHeld => ?_)
                      · exact HS0.out
                      generalize wr.drew = v0 at *
                      refine anyK_take2 (i := 0) (v := ?v0_104) rfl (by kernel_rfl) (by kernel_rfl) (by kernel_rfl) (by rfl) (fun _ _ _ h => h) (by rfl) hHeld ?hy0_104 (some 70) (by rfl) ?rest0_104
                      case hy0_104 => (intro W hSw; obtain ⟨⟨x0, x1, x2, x3, x4, x5, x6, x7⟩, x8, x9, x10, x11, x12⟩ := hSw; go_simp; (try with_reducible rfl))
                      try simp only [Act.put, List.setIfInBounds_toArray, List.set_cons_succ, List.set_cons_zero]
                      refine anyK_take2 (i := 1) (v := ?v1_105) rfl (by kernel_rfl) (by kernel_rfl) (by kernel_rfl) (by rfl) (fun _ _ _ h => h) (by rfl) hHeld ?hy1_105 (some 71) (by rfl) ?rest1_105
                      case hy1_105 => (intro W hSw; obtain ⟨⟨x0, x1, x2, x3, x4, x5, x6, x7⟩, x8, x9, x10, x11, x12⟩ := hSw; go_simp; (try with_reducible rfl))
                      try simp only [Act.put, List.setIfInBounds_toArray, List.set_cons_succ, List.set_cons_zero]
                      refine anyK_skip (i := 2) rfl (by kernel_rfl) (by kernel_rfl) (by kernel_rfl) (by kernel_rfl) (fun _ _ _ h => h) (by rfl) hHeld (some 72) (by rfl) ?_
                      try simp only [Act.put, List.setIfInBounds_toArray, List.set_cons_succ, List.set_cons_zero]
                      refine anyK_skip (i := 3) rfl (by kernel_rfl) (by kernel_rfl) (by kernel_rfl) (by kernel_rfl) (fun _ _ _ h => h) (by rfl) hHeld (some 73) (by rfl) ?_
                      try simp only [Act.put, List.setIfInBounds_toArray, List.set_cons_succ, List.set_cons_zero]
                      refine anyK_skip (i := 4) rfl (by kernel_rfl) (by kernel_rfl) (by kernel_rfl) (by kernel_rfl) (fun _ _ _ h => h) (by rfl) hHeld (some 74) (by rfl) ?_
                      try simp only [Act.put, List.setIfInBounds_toArray, List.set_cons_succ, List.set_cons_zero]
                      refine anyK_skip (i := 5) rfl (by kernel_rfl) (by kernel_rfl) (by kernel_rfl) (by kernel_rfl) (fun _ _ _ h => h) (by rfl) hHeld (some 75) (by rfl) ?_
                      try simp only [Act.put, List.setIfInBounds_toArray, List.set_cons_succ, List.set_cons_zero]
                      refine anyK_skip (i := 6) rfl (by kernel_rfl) (by kernel_rfl) (by kernel_rfl) (by kernel_rfl) (fun _ _ _ h => h) (by rfl) hHeld (some 76) (by rfl) ?_
                      try simp only [Act.put, List.setIfInBounds_toArray, List.set_cons_succ, List.set_cons_zero]
                      refine anyK_skip (i := 7) rfl (by kernel_rfl) (by kernel_rfl) (by kernel_rfl) (by kernel_rfl) (fun _ _ _ h => h) (by rfl) hHeld (some 77) (by rfl) ?_
                      try simp only [Act.put, List.setIfInBounds_toArray, List.set_cons_succ, List.set_cons_zero]
                      refine anyK_skip (i := 8) rfl (by kernel_rfl) (by kernel_rfl) (by kernel_rfl) (by kernel_rfl) (fun _ _ _ h => h) (by rfl) hHeld (some 78) (by rfl) ?_
                      try simp only [Act.put, List.setIfInBounds_toArray, List.set_cons_succ, List.set_cons_zero]
                      refine anyK_skip (i := 9) rfl (by kernel_rfl) (by kernel_rfl) (by kernel_rfl) (by kernel_rfl) (fun _ _ _ h => h) (by rfl) hHeld (some 79) (by rfl) ?_
                      try simp only [Act.put, List.setIfInBounds_toArray, List.set_cons_succ, List.set_cons_zero]
                      refine anyK_skip (i := 10) rfl (by kernel_rfl) (by kernel_rfl) (by kernel_rfl) (by kernel_rfl) (fun _ _ _ h => h) (by rfl) hHeld (some 80) (by rfl) ?_
                      try simp only [Act.put, List.setIfInBounds_toArray, List.set_cons_succ, List.set_cons_zero]
                      refine anyK_skip (i := 11) rfl (by kernel_rfl) (by kernel_rfl) (by kernel_rfl) (by kernel_rfl) (fun _ _ _ h => h) (by rfl) hHeld (some 81) (by rfl) ?_
                      try simp only [Act.put, List.setIfInBounds_toArray, List.set_cons_succ, List.set_cons_zero]
                      refine anyK_take2 (i := 12) (v := ?v12_106) rfl (by kernel_rfl) (by kernel_rfl) (by kernel_rfl) (by rfl) (fun _ _ _ h => h) (by rfl) hHeld ?hy12_106 (some 82) (by rfl) ?rest12_106
                      case hy12_106 => (intro W hSw; obtain ⟨⟨x0, x1, x2, x3, x4, x5, x6, x7⟩, x8, x9, x10, x11, x12⟩ := hSw; go_simp; (try with_reducible rfl))
                      try simp only [Act.put, List.setIfInBounds_toArray, List.set_cons_succ, List.set_cons_zero]
                      refine anyK_take2 (i := 13) (v := ?v13_107) rfl (by kernel_rfl) (by kernel_rfl) (by kernel_rfl) (by rfl) (fun _ _ _ h => h) (by rfl) hHeld ?hy13_107 (some 14) (by rfl) ?rest13_107
                      case hy13_107 => (intro W hSw; obtain ⟨⟨x0, x1, x2, x3, x4, x5, x6, x7⟩, x8, x9, x10, x11, x12⟩ := hSw; go_simp; (try with_reducible rfl))
                      try simp only [Act.put, List.setIfInBounds_toArray, List.set_cons_succ, List.set_cons_zero]
                      refine anyK_done (by kernel_rfl) ?_ _
                      clear hHeld
                      go_wp2_with fail
                      go_roundw
                      case rel => exact ⟨j + 1, by omega, by go_num, by rw [HSt.out], HID⟩
                      case measure => simp [intOf]; omega
                    | false =>
                      replace HSt := hid (show (ws.take (j + 1)).any (fun e => inM (⟨K1, N1, F1, Z1⟩, ⟨K2, N2, F2, Z2⟩) e) = inM (⟨K1, N1, F1, Z1⟩, ⟨K2, N2, F2, Z2⟩) ⟨KX, NX, FX, ZX⟩ by rw [HSt.out]; rfl)
                      go_wp2
                      clear k5
                      refine region_K 99 (fun V => BoxS V w.heap.size K1 N1 F1 (.slice p1 m1 d1) K2 N2 F2 (.slice p2 m2 d2) ∧ V.cell? ⟨wo.heap.size, 5, none⟩ = some (.slice (some ⟨b, off, none⟩) n2 c2) ∧ Box4 V b (off + j * 4) KX NX FX (.slice px mx cx)) (by kernel_rfl) ?_ (fun hHeld => ?_)
                      · exact HS0.out
                      generalize wr.drew = v0 at *
                      refine anyK_take2 (i := 0) (v := ?v0_108) rfl (by kernel_rfl) (by kernel_rfl) (by kernel_rfl) (by rfl) (fun _ _ _ h => h) (by rfl) hHeld ?hy0_108 (some 70) (by rfl) ?rest0_108
                      case hy0_108 => (intro W hSw; obtain ⟨⟨x0, x1, x2, x3, x4, x5, x6, x7⟩, x8, x9, x10, x11, x12⟩ := hSw; go_simp; (try with_reducible rfl))
                      try simp only [Act.put, List.setIfInBounds_toArray, List.set_cons_succ, List.set_cons_zero]
                      refine anyK_take2 (i := 1) (v := ?v1_109) rfl (by kernel_rfl) (by kernel_rfl) (by kernel_rfl) (by rfl) (fun _ _ _ h => h) (by rfl) hHeld ?hy1_109 (some 71) (by rfl) ?rest1_109
                      case hy1_109 => (intro W hSw; obtain ⟨⟨x0, x1, x2, x3, x4, x5, x6, x7⟩, x8, x9, x10, x11, x12⟩ := hSw; go_simp; (try with_reducible rfl))
                      try simp only [Act.put, List.setIfInBounds_toArray, List.set_cons_succ, List.set_cons_zero]
                      refine anyK_take2 (i := 2) (v := ?v2_110) rfl (by kernel_rfl) (by kernel_rfl) (by kernel_rfl) (by rfl) (fun _ _ _ h => h) (by rfl) hHeld ?hy2_110 (some 72) (by rfl) ?rest2_110
                      case hy2_110 => (intro W hSw; obtain ⟨⟨x0, x1, x2, x3, x4, x5, x6, x7⟩, x8, x9, x10, x11, x12⟩ := hSw; go_simp; (try with_reducible rfl))
                      try simp only [Act.put, List.setIfInBounds_toArray, List.set_cons_succ, List.set_cons_zero]
                      refine anyK_take2 (i := 3) (v := ?v3_111) rfl (by kernel_rfl) (by kernel_rfl) (by kernel_rfl) (by rfl) (fun _ _ _ h => h) (by rfl) hHeld ?hy3_111 (some 73) (by rfl) ?rest3_111
                      case hy3_111 => (intro W hSw; obtain ⟨⟨x0, x1, x2, x3, x4, x5, x6, x7⟩, x8, x9, x10, x11, x12⟩ := hSw; go_simp; (try with_reducible rfl))
                      try simp only [Act.put, List.setIfInBounds_toArray, List.set_cons_succ, List.set_cons_zero]
                      refine anyK_take2 (i := 4) (v := ?v4_112) rfl (by kernel_rfl) (by kernel_rfl) (by kernel_rfl) (by rfl) (fun _ _ _ h => h) (by rfl) hHeld ?hy4_112 (some 74) (by rfl) ?rest4_112
                      case hy4_112 => (intro W hSw; obtain ⟨⟨x0, x1, x2, x3, x4, x5, x6, x7⟩, x8, x9, x10, x11, x12⟩ := hSw; go_simp; (try with_reducible rfl))
                      try simp only [Act.put, List.setIfInBounds_toArray, List.set_cons_succ, List.set_cons_zero]
                      refine anyK_take2 (i := 5) (v := ?v5_113) rfl (by kernel_rfl) (by kernel_rfl) (by kernel_rfl) (by rfl) (fun _ _ _ h => h) (by rfl) hHeld ?hy5_113 (some 75) (by rfl) ?rest5_113
                      case hy5_113 => (intro W hSw; obtain ⟨⟨x0, x1, x2, x3, x4, x5, x6, x7⟩, x8, x9, x10, x11, x12⟩ := hSw; go_simp; (try with_reducible rfl))
                      try simp only [Act.put, List.setIfInBounds_toArray, List.set_cons_succ, List.set_cons_zero]
                      refine anyK_take2 (i := 6) (v := ?v6_114) rfl (by kernel_rfl) (by kernel_rfl) (by kernel_rfl) (by rfl) (fun _ _ _ h => h) (by rfl) hHeld ?hy6_114 (some 76) (by rfl) ?rest6_114
                      case hy6_114 => (intro W hSw; obtain ⟨⟨x0, x1, x2, x3, x4, x5, x6, x7⟩, x8, x9, x10, x11, x12⟩ := hSw; go_simp; (try with_reducible rfl))
                      try simp only [Act.put, List.setIfInBounds_toArray, List.set_cons_succ, List.set_cons_zero]
                      refine anyK_take2 (i := 7) (v := ?v7_115) rfl (by kernel_rfl) (by kernel_rfl) (by kernel_rfl) (by rfl) (fun _ _ _ h => h) (by rfl) hHeld ?hy7_115 (some 77) (by rfl) ?rest7_115
                      case hy7_115 => (intro W hSw; obtain ⟨⟨x0, x1, x2, x3, x4, x5, x6, x7⟩, x8, x9, x10, x11, x12⟩ := hSw; go_simp; (try with_reducible rfl))
                      try simp only [Act.put, List.setIfInBounds_toArray, List.set_cons_succ, List.set_cons_zero]
                      refine anyK_take2 (i := 8) (v := ?v8_116) rfl (by kernel_rfl) (by kernel_rfl) (by kernel_rfl) (by rfl) (fun _ _ _ h => h) (by rfl) hHeld ?hy8_116 (some 78) (by rfl) ?rest8_116
                      case hy8_116 => (intro W hSw; obtain ⟨⟨x0, x1, x2, x3, x4, x5, x6, x7⟩, x8, x9, x10, x11, x12⟩ := hSw; go_simp; (try with_reducible rfl))
                      try simp only [Act.put, List.setIfInBounds_toArray, List.set_cons_succ, List.set_cons_zero]
                      refine anyK_take2 (i := 9) (v := ?v9_117) rfl (by kernel_rfl) (by kernel_rfl) (by kernel_rfl) (by rfl) (fun _ _ _ h => h) (by rfl) hHeld ?hy9_117 (some 79) (by rfl) ?rest9_117
                      case hy9_117 => (intro W hSw; obtain ⟨⟨x0, x1, x2, x3, x4, x5, x6, x7⟩, x8, x9, x10, x11, x12⟩ := hSw; go_simp; (try with_reducible rfl))
                      try simp only [Act.put, List.setIfInBounds_toArray, List.set_cons_succ, List.set_cons_zero]
                      refine anyK_take2 (i := 10) (v := ?v10_118) rfl (by kernel_rfl) (by kernel_rfl) (by kernel_rfl) (by rfl) (fun _ _ _ h => h) (by rfl) hHeld ?hy10_118 (some 80) (by rfl) ?rest10_118
                      case hy10_118 => (intro W hSw; obtain ⟨⟨x0, x1, x2, x3, x4, x5, x6, x7⟩, x8, x9, x10, x11, x12⟩ := hSw; go_simp; (try with_reducible rfl))
                      try simp only [Act.put, List.setIfInBounds_toArray, List.set_cons_succ, List.set_cons_zero]
                      refine anyK_step (i := 11) (by kernel_rfl) rfl (fun KP hK => ?_)
                      go_simp
                      refine (spec_InSpan K1 N1 K2 N2 KX NX F1 F2 FX d1 d2 cx hf1 hf2 hfx (HQ1.out.below HBi.out (Nat.le_refl _)) (HQ2.out.below HBi.out (Nat.le_refl _)) QX.out hz1 hz2 hzx).mono ?_
                      rintro e u ⟨rfl, b1⟩
                      rw [← HIn.out, ← HSt.out]
                      obtain ⟨A2, hA2⟩ : ∃ A2, (ws.take (j + 1)).any (fun e => inM (⟨K1, N1, F1, Z1⟩, ⟨K2, N2, F2, Z2⟩) e) = A2 := ⟨_, rfl⟩
                      rw [hA2]
                      have HA2 := hid hA2
                      have HS1 := hid (show (fun V => BoxS V w.heap.size K1 N1 F1 (.slice p1 m1 d1) K2 N2 F2 (.slice p2 m2 d2) ∧ V.cell? ⟨wo.heap.size, 5, none⟩ = some (.slice (some ⟨b, off, none⟩) n2 c2) ∧ Box4 V b (off + j * 4) KX NX FX (.slice px mx cx)) u from ⟨HS0.out.1.below b1 (Nat.le_refl _), (b1.cell (p := ⟨wo.heap.size, 5, none⟩) (World.block_lt_of_cell? _ _ HS0.out.2.1)).trans HS0.out.2.1, HS0.out.2.2.below b1 (Nat.le_refl _)⟩)
                      have HI2 := hid (HID.out.trans (b1.mono HID.out.size))
                      clear b1 hA2
                      go_wp2_with fail
                      clear hHeld
                      refine hK.out _ _ HS1.out (fun hHeld => ?_)
                      clear hK KP
                      try simp only [Act.put, List.setIfInBounds_toArray, List.set_cons_succ, List.set_cons_zero]
                      refine anyK_take2 (i := 12) (v := ?v12_119) rfl (by kernel_rfl) (by kernel_rfl) (by kernel_rfl) (by rfl) (fun _ _ _ h => h) (by rfl) hHeld ?hy12_119 (some 82) (by rfl) ?rest12_119
                      case hy12_119 => (intro W hSw; obtain ⟨⟨x0, x1, x2, x3, x4, x5, x6, x7⟩, x8, x9, x10, x11, x12⟩ := hSw; go_simp; (try with_reducible rfl))
                      try simp only [Act.put, List.setIfInBounds_toArray, List.set_cons_succ, List.set_cons_zero]
                      refine anyK_take2 (i := 13) (v := ?v13_120) rfl (by kernel_rfl) (by kernel_rfl) (by kernel_rfl) (by rfl) (fun _ _ _ h => h) (by rfl) hHeld ?hy13_120 (some 14) (by rfl) ?rest13_120
                      case hy13_120 => (intro W hSw; obtain ⟨⟨x0, x1, x2, x3, x4, x5, x6, x7⟩, x8, x9, x10, x11, x12⟩ := hSw; go_simp; (try with_reducible rfl))
                      try simp only [Act.put, List.setIfInBounds_toArray, List.set_cons_succ, List.set_cons_zero]
                      refine anyK_done (by kernel_rfl) ?_ _
                      clear hHeld
                      go_wp2_with fail
                      go_roundw
                      case rel => exact ⟨j + 1, by omega, by go_num, by rw [HA2.out], HI2⟩
                      case measure => simp [intOf]; omega
                  · have hjl' : ¬ (j : Int) < (n2 : Int) := by omega
                    have HHit := hid (show (ws.take j).any (fun e => inM (⟨K1, N1, F1, Z1⟩, ⟨K2, N2, F2, Z2⟩) e) = hitW (⟨K1, N1, F1, Z1⟩, ⟨K2, N2, F2, Z2⟩) ⟨xi, be, en, al, rs, ws, inn, ou⟩ by rw [List.take_of_length_le (by have := HN2.out; omega)]; rfl)
                    rw [HHit.out]
                    obtain ⟨bl, ofl, v1, f1, v2, f2, el, bxl0, _, _, _, _⟩ := (HRT.out.below HBA.out (Nat.le_refl _)).at (k := k) HKN.out
                    have bxl := bxl0.below HI.out (Nat.le_refl _)
                    rw [HTK.out] at bxl
                    rw [HTK.out] at HMi
                    obtain ⟨h1, hh1⟩ : ∃ h1, (⟨xk, bk, ek, false, rk, wk, ik, ok⟩ : Tk).rs.length = h1 := ⟨_, rfl⟩
                    obtain ⟨h2, hh2⟩ : ∃ h2, (⟨xk, bk, ek, false, rk, wk, ik, ok⟩ : Tk).ws.length = h2 := ⟨_, rfl⟩
                    rw [hh1, hh2] at bxl
                    subst el
                    have bD := (Below.refl wr.heap.size wr).drew
                    have HS0 := hid (show (fun V => Box8 V bl (ofl + k * 8) ⟨xk, bk, ek, false, rk, wk, ik, ok⟩ (.slice v1 h1 f1) (.slice v2 h2 f2) ∧ BoxK V wo.heap.size xi be en al (.slice a1 n1 c1) (.slice a2 n2 c2) inn ou) wr.drew from ⟨bxl.below bD (Nat.le_refl _), (BoxK.row hr13).below bD (Nat.le_refl _)⟩)
                    have HID := hid (HI.out.trans (bD.mono HI.out.size))
                    obtain ⟨CB, hCB⟩ : ∃ CB, concB ⟨xk, bk, ek, false, rk, wk, ik, ok⟩ ⟨xi, be, en, al, rs, ws, inn, ou⟩ = CB := ⟨_, rfl⟩
                    obtain ⟨HH, hHH⟩ : ∃ HH, hitW (⟨K1, N1, F1, Z1⟩, ⟨K2, N2, F2, Z2⟩) ⟨xi, be, en, al, rs, ws, inn, ou⟩ = HH := ⟨_, rfl⟩
                    rw [hCB, hHH] at HMi
                    rw [hHH]
                    have HCB := hid hCB
                    clear bxl0 bxl bD hCB hHH HHit hr13 hh1 hh2 HI
                    -- what stands behind the test, in a world that is only greater
                    have after : ∀ u, Below wA.heap.size wA u → Hid (u.ownsRow w2.heap.size 46 8 (.slice (some ⟨g, 0, none⟩) n c3) n (cP (qJ true M ps i)) ∧ BandsP u w2.heap.size hi1 (ps.set k (t0, m0)) ∧ u.heap[w3.heap.size]? = some (.cells (cellsT1 (tJ true M t0 i) m0).toArray 46) ∧ BoxS u w.heap.size K1 N1 F1 (.slice p1 m1 d1) K2 N2 F2 (.slice p2 m2 d2) ∧ Below w.heap.size w u ∧ W.heap.size ≤ u.heap.size ∧ u.heap[wo.heap.size]? = some (.cells #[.int .i64 xi, .int .i64 be, .int .i64 en, .bool al, .slice a1 n1 c1, .slice a2 n2 c2, .bool inn, .bool ou] 46) ∧ wo.heap.size < u.heap.size) := fun u bu => hid (by
                      have bb := HAW.out.trans (bu.mono HAW.out.size)
                      exact ⟨owns_below bb (Nat.le_refl _) HR.out, HBP.out.keep (Keeps.of_below (X := fun _ => False) bb) (fun _ _ _ _ x => x.elim), (bb.block _ (by omega)).trans HT.out, HX.out.below bb (Nat.le_refl _), HB.out.trans (bb.mono HB.out.size), by have := bb.size; omega, (bu.block _ (by have := HZA.out; omega)).trans HRA.out, by have := bu.size; have := HZA.out; omega⟩)
                    have HAf := hid after
                    clear after
                    by_cases hik : i = k
                    · have hq : ((i : Int) == (k : Int)) = true := by simpa using (show (i : Int) = (k : Int) by omega)
                      have hMf : M i = false := by rw [HMi.out, decide_eq_true hik]; rfl
                      have HQe := hid (qJ_no true M ps hMf)
                      have HTe := hid (show tJ true M t0 (i + 1) = tJ true M t0 i by rw [tJ_succ, hMf]; rfl)
                      have HCe := hid (show cdJ true M ts (i + 1) = cdJ true M ts i by rw [cdJ_succ, hMf]; rfl)
                      clear hik hMf
                      go_wp2
                      clear k5
                      refine region_K 99 (fun V => Box8 V bl (ofl + k * 8) ⟨xk, bk, ek, false, rk, wk, ik, ok⟩ (.slice v1 h1 f1) (.slice v2 h2 f2) ∧ BoxK V wo.heap.size xi be en al (.slice a1 n1 c1) (.slice a2 n2 c2) inn ou) (by kernel_rfl) ?_ (fun hHeld => ?_)
                      · exact HS0.out
                      generalize wr.drew = v0 at *
                      refine anyK_take2 (i := 0) (v := ?v0_121) rfl (by kernel_rfl) (by kernel_rfl) (by kernel_rfl) (by rfl) (fun _ _ _ h => h) (by rfl) hHeld ?hy0_121 (some 83) (by rfl) ?rest0_121
                      case hy0_121 => (intro W hSw; obtain ⟨⟨x0, x1, x2, x3, x4, x5, x6, x7⟩, x8, x9, x10, x11, x12, x13, x14, x15⟩ := hSw; go_simp; (try with_reducible rfl))
                      try simp only [Act.put, List.setIfInBounds_toArray, List.set_cons_succ, List.set_cons_zero]
                      refine anyK_take2 (i := 1) (v := ?v1_122) rfl (by kernel_rfl) (by kernel_rfl) (by kernel_rfl) (by rfl) (fun _ _ _ h => h) (by rfl) hHeld ?hy1_122 (some 84) (by rfl) ?rest1_122
                      case hy1_122 => (intro W hSw; obtain ⟨⟨x0, x1, x2, x3, x4, x5, x6, x7⟩, x8, x9, x10, x11, x12, x13, x14, x15⟩ := hSw; go_simp; (try with_reducible rfl))
                      try simp only [Act.put, List.setIfInBounds_toArray, List.set_cons_succ, List.set_cons_zero]
                      refine anyK_take2 (i := 2) (v := ?v2_123) rfl (by kernel_rfl) (by kernel_rfl) (by kernel_rfl) (by rfl) (fun _ _ _ h => h) (by rfl) hHeld ?hy2_123 (some 85) (by rfl) ?rest2_123
                      case hy2_123 => (intro W hSw; obtain ⟨⟨x0, x1, x2, x3, x4, x5, x6, x7⟩, x8, x9, x10, x11, x12, x13, x14, x15⟩ := hSw; go_simp; (try with_reducible rfl))
                      try simp only [Act.put, List.setIfInBounds_toArray, List.set_cons_succ, List.set_cons_zero]
                      refine anyK_take2 (i := 3) (v := ?v3_124) rfl (by kernel_rfl) (by kernel_rfl) (by kernel_rfl) (by rfl) (fun _ _ _ h => h) (by rfl) hHeld ?hy3_124 (some 86) (by rfl) ?rest3_124
                      case hy3_124 => (intro W hSw; obtain ⟨⟨x0, x1, x2, x3, x4, x5, x6, x7⟩, x8, x9, x10, x11, x12, x13, x14, x15⟩ := hSw; go_simp; (try with_reducible rfl))
                      try simp only [Act.put, List.setIfInBounds_toArray, List.set_cons_succ, List.set_cons_zero]
                      refine anyK_skip (i := 4) rfl (by kernel_rfl) (by kernel_rfl) (by kernel_rfl) (by kernel_rfl) (fun _ _ _ h => h) (by rfl) hHeld (some 87) (by rfl) ?_
                      try simp only [Act.put, List.setIfInBounds_toArray, List.set_cons_succ, List.set_cons_zero]
                      refine anyK_skip (i := 5) rfl (by kernel_rfl) (by kernel_rfl) (by kernel_rfl) (by kernel_rfl) (fun _ _ _ h => h) (by rfl) hHeld (some 88) (by rfl) ?_
                      try simp only [Act.put, List.setIfInBounds_toArray, List.set_cons_succ, List.set_cons_zero]
                      refine anyK_take2 (i := 6) (v := ?v6_125) rfl (by kernel_rfl) (by kernel_rfl) (by kernel_rfl) (by rfl) (fun _ _ _ h => h) (by rfl) hHeld ?hy6_125 (some 89) (by rfl) ?rest6_125
                      case hy6_125 => (intro W hSw; obtain ⟨⟨x0, x1, x2, x3, x4, x5, x6, x7⟩, x8, x9, x10, x11, x12, x13, x14, x15⟩ := hSw; go_simp; (try with_reducible rfl))
                      try simp only [Act.put, List.setIfInBounds_toArray, List.set_cons_succ, List.set_cons_zero]
                      refine anyK_take2 (i := 7) (v := ?v7_126) rfl (by kernel_rfl) (by kernel_rfl) (by kernel_rfl) (by rfl) (fun _ _ _ h => h) (by rfl) hHeld ?hy7_126 (some 90) (by rfl) ?rest7_126
                      case hy7_126 => (intro W hSw; obtain ⟨⟨x0, x1, x2, x3, x4, x5, x6, x7⟩, x8, x9, x10, x11, x12, x13, x14, x15⟩ := hSw; go_simp; (try with_reducible rfl))
                      try simp only [Act.put, List.setIfInBounds_toArray, List.set_cons_succ, List.set_cons_zero]
                      refine anyK_skip (i := 8) rfl (by kernel_rfl) (by kernel_rfl) (by kernel_rfl) (by kernel_rfl) (fun _ _ _ h => h) (by rfl) hHeld (some 91) (by rfl) ?_
                      try simp only [Act.put, List.setIfInBounds_toArray, List.set_cons_succ, List.set_cons_zero]
                      refine anyK_skip (i := 9) rfl (by kernel_rfl) (by kernel_rfl) (by kernel_rfl) (by kernel_rfl) (fun _ _ _ h => h) (by rfl) hHeld (some 92) (by rfl) ?_
                      try simp only [Act.put, List.setIfInBounds_toArray, List.set_cons_succ, List.set_cons_zero]
                      refine anyK_skip (i := 10) rfl (by kernel_rfl) (by kernel_rfl) (by kernel_rfl) (by kernel_rfl) (fun _ _ _ h => h) (by rfl) hHeld (some 93) (by rfl) ?_
                      try simp only [Act.put, List.setIfInBounds_toArray, List.set_cons_succ, List.set_cons_zero]
                      refine anyK_skip (i := 11) rfl (by kernel_rfl) (by kernel_rfl) (by kernel_rfl) (by kernel_rfl) (fun _ _ _ h => h) (by rfl) hHeld (some 94) (by rfl) ?_
                      try simp only [Act.put, List.setIfInBounds_toArray, List.set_cons_succ, List.set_cons_zero]
                      refine anyK_skip (i := 12) rfl (by kernel_rfl) (by kernel_rfl) (by kernel_rfl) (by kernel_rfl) (fun _ _ _ h => h) (by rfl) hHeld (some 95) (by rfl) ?_
                      try simp only [Act.put, List.setIfInBounds_toArray, List.set_cons_succ, List.set_cons_zero]
                      refine anyK_skip (i := 13) rfl (by kernel_rfl) (by kernel_rfl) (by kernel_rfl) (by kernel_rfl) (fun _ _ _ h => h) (by rfl) hHeld (some 96) (by rfl) ?_
                      try simp only [Act.put, List.setIfInBounds_toArray, List.set_cons_succ, List.set_cons_zero]
                      refine anyK_skip (i := 14) rfl (by kernel_rfl) (by kernel_rfl) (by kernel_rfl) (by kernel_rfl) (fun _ _ _ h => h) (by rfl) hHeld (some 97) (by rfl) ?_
                      try simp only [Act.put, List.setIfInBounds_toArray, List.set_cons_succ, List.set_cons_zero]
                      refine anyK_take2 (i := 15) (v := ?v15_127) rfl (by kernel_rfl) (by kernel_rfl) (by kernel_rfl) (by rfl) (fun _ _ _ h => h) (by rfl) hHeld ?hy15_127 (some 98) (by rfl) ?rest15_127
                      case hy15_127 => (intro W hSw; obtain ⟨⟨x0, x1, x2, x3, x4, x5, x6, x7⟩, x8, x9, x10, x11, x12, x13, x14, x15⟩ := hSw; go_simp; (try with_reducible rfl))
                      try simp only [Act.put, List.setIfInBounds_toArray, List.set_cons_succ, List.set_cons_zero]
                      refine anyK_done (by kernel_rfl) ?_ _
                      clear hHeld
                      go_wp2_with fail
                      go_roundw
                      case rel => exact ⟨i + 1, by omega, by go_num, by rw [HCe.out], hid (by rw [HQe.out]; exact (HAf.out _ HID.out).out.1), hid (HAf.out _ HID.out).out.2.1, hid (by rw [HTe.out]; exact (HAf.out _ HID.out).out.2.2.1), hid (HAf.out _ HID.out).out.2.2.2.1, hid (HAf.out _ HID.out).out.2.2.2.2.1, (HAf.out _ HID.out).out.2.2.2.2.2.1⟩
                      case measure => simp [intOf]; omega
                    · have hq : ((i : Int) == (k : Int)) = false := by simpa using (show ¬ (i : Int) = (k : Int) by omega)
                      cases HH with
                      | false =>
                        have hMf : M i = false := by rw [HMi.out, Bool.and_false, Bool.and_false]
                        have HQe := hid (qJ_no true M ps hMf)
                        have HTe := hid (show tJ true M t0 (i + 1) = tJ true M t0 i by rw [tJ_succ, hMf]; rfl)
                        have HCe := hid (show cdJ true M ts (i + 1) = cdJ true M ts i by rw [cdJ_succ, hMf]; rfl)
                        clear hik hMf
                        go_wp2
                        clear k5
                        refine region_K 99 (fun V => Box8 V bl (ofl + k * 8) ⟨xk, bk, ek, false, rk, wk, ik, ok⟩ (.slice v1 h1 f1) (.slice v2 h2 f2) ∧ BoxK V wo.heap.size xi be en al (.slice a1 n1 c1) (.slice a2 n2 c2) inn ou) (by kernel_rfl) ?_ (fun hHeld => ?_)
                        · exact HS0.out
                        generalize wr.drew = v0 at *
                        refine anyK_take2 (i := 0) (v := ?v0_128) rfl (by kernel_rfl) (by kernel_rfl) (by kernel_rfl) (by rfl) (fun _ _ _ h => h) (by rfl) hHeld ?hy0_128 (some 83) (by rfl) ?rest0_128
                        case hy0_128 => (intro W hSw; obtain ⟨⟨x0, x1, x2, x3, x4, x5, x6, x7⟩, x8, x9, x10, x11, x12, x13, x14, x15⟩ := hSw; go_simp; (try with_reducible rfl))
                        try simp only [Act.put, List.setIfInBounds_toArray, List.set_cons_succ, List.set_cons_zero]
                        refine anyK_take2 (i := 1) (v := ?v1_129) rfl (by kernel_rfl) (by kernel_rfl) (by kernel_rfl) (by rfl) (fun _ _ _ h => h) (by rfl) hHeld ?hy1_129 (some 84) (by rfl) ?rest1_129
                        case hy1_129 => (intro W hSw; obtain ⟨⟨x0, x1, x2, x3, x4, x5, x6, x7⟩, x8, x9, x10, x11, x12, x13, x14, x15⟩ := hSw; go_simp; (try with_reducible rfl))
                        try simp only [Act.put, List.setIfInBounds_toArray, List.set_cons_succ, List.set_cons_zero]
                        refine anyK_take2 (i := 2) (v := ?v2_130) rfl (by kernel_rfl) (by kernel_rfl) (by kernel_rfl) (by rfl) (fun _ _ _ h => h) (by rfl) hHeld ?hy2_130 (some 85) (by rfl) ?rest2_130
                        case hy2_130 => (intro W hSw; obtain ⟨⟨x0, x1, x2, x3, x4, x5, x6, x7⟩, x8, x9, x10, x11, x12, x13, x14, x15⟩ := hSw; go_simp; (try with_reducible rfl))
                        try simp only [Act.put, List.setIfInBounds_toArray, List.set_cons_succ, List.set_cons_zero]
                        refine anyK_take2 (i := 3) (v := ?v3_131) rfl (by kernel_rfl) (by kernel_rfl) (by kernel_rfl) (by rfl) (fun _ _ _ h => h) (by rfl) hHeld ?hy3_131 (some 86) (by rfl) ?rest3_131
                        case hy3_131 => (intro W hSw; obtain ⟨⟨x0, x1, x2, x3, x4, x5, x6, x7⟩, x8, x9, x10, x11, x12, x13, x14, x15⟩ := hSw; go_simp; (try with_reducible rfl))
                        try simp only [Act.put, List.setIfInBounds_toArray, List.set_cons_succ, List.set_cons_zero]
                        refine anyK_take2 (i := 4) (v := ?v4_132) rfl (by kernel_rfl) (by kernel_rfl) (by kernel_rfl) (by rfl) (fun _ _ _ h => h) (by rfl) hHeld ?hy4_132 (some 87) (by rfl) ?rest4_132
                        case hy4_132 => (intro W hSw; obtain ⟨⟨x0, x1, x2, x3, x4, x5, x6, x7⟩, x8, x9, x10, x11, x12, x13, x14, x15⟩ := hSw; go_simp; (try with_reducible rfl))
                        try simp only [Act.put, List.setIfInBounds_toArray, List.set_cons_succ, List.set_cons_zero]
                        refine anyK_take2 (i := 5) (v := ?v5_133) rfl (by kernel_rfl) (by kernel_rfl) (by kernel_rfl) (by rfl) (fun _ _ _ h => h) (by rfl) hHeld ?hy5_133 (some 88) (by rfl) ?rest5_133
                        case hy5_133 => (intro W hSw; obtain ⟨⟨x0, x1, x2, x3, x4, x5, x6, x7⟩, x8, x9, x10, x11, x12, x13, x14, x15⟩ := hSw; go_simp; (try with_reducible rfl))
                        try simp only [Act.put, List.setIfInBounds_toArray, List.set_cons_succ, List.set_cons_zero]
                        refine anyK_take2 (i := 6) (v := ?v6_134) rfl (by kernel_rfl) (by kernel_rfl) (by kernel_rfl) (by rfl) (fun _ _ _ h => h) (by rfl) hHeld ?hy6_134 (some 89) (by rfl) ?rest6_134
                        case hy6_134 => (intro W hSw; obtain ⟨⟨x0, x1, x2, x3, x4, x5, x6, x7⟩, x8, x9, x10, x11, x12, x13, x14, x15⟩ := hSw; go_simp; (try with_reducible rfl))
                        try simp only [Act.put, List.setIfInBounds_toArray, List.set_cons_succ, List.set_cons_zero]
                        refine anyK_take2 (i := 7) (v := ?v7_135) rfl (by kernel_rfl) (by kernel_rfl) (by kernel_rfl) (by rfl) (fun _ _ _ h => h) (by rfl) hHeld ?hy7_135 (some 90) (by rfl) ?rest7_135
                        case hy7_135 => (intro W hSw; obtain ⟨⟨x0, x1, x2, x3, x4, x5, x6, x7⟩, x8, x9, x10, x11, x12, x13, x14, x15⟩ := hSw; go_simp; (try with_reducible rfl))
                        try simp only [Act.put, List.setIfInBounds_toArray, List.set_cons_succ, List.set_cons_zero]
                        refine anyK_skip (i := 8) rfl (by kernel_rfl) (by kernel_rfl) (by kernel_rfl) (by kernel_rfl) (fun _ _ _ h => h) (by rfl) hHeld (some 91) (by rfl) ?_
                        try simp only [Act.put, List.setIfInBounds_toArray, List.set_cons_succ, List.set_cons_zero]
                        refine anyK_skip (i := 9) rfl (by kernel_rfl) (by kernel_rfl) (by kernel_rfl) (by kernel_rfl) (fun _ _ _ h => h) (by rfl) hHeld (some 92) (by rfl) ?_
                        try simp only [Act.put, List.setIfInBounds_toArray, List.set_cons_succ, List.set_cons_zero]
                        refine anyK_skip (i := 10) rfl (by kernel_rfl) (by kernel_rfl) (by kernel_rfl) (by kernel_rfl) (fun _ _ _ h => h) (by rfl) hHeld (some 93) (by rfl) ?_
                        try simp only [Act.put, List.setIfInBounds_toArray, List.set_cons_succ, List.set_cons_zero]
                        refine anyK_skip (i := 11) rfl (by kernel_rfl) (by kernel_rfl) (by kernel_rfl) (by kernel_rfl) (fun _ _ _ h => h) (by rfl) hHeld (some 94) (by rfl) ?_
                        try simp only [Act.put, List.setIfInBounds_toArray, List.set_cons_succ, List.set_cons_zero]
                        refine anyK_skip (i := 12) rfl (by kernel_rfl) (by kernel_rfl) (by kernel_rfl) (by kernel_rfl) (fun _ _ _ h => h) (by rfl) hHeld (some 95) (by rfl) ?_
                        try simp only [Act.put, List.setIfInBounds_toArray, List.set_cons_succ, List.set_cons_zero]
                        refine anyK_skip (i := 13) rfl (by kernel_rfl) (by kernel_rfl) (by kernel_rfl) (by kernel_rfl) (fun _ _ _ h => h) (by rfl) hHeld (some 96) (by rfl) ?_
                        try simp only [Act.put, List.setIfInBounds_toArray, List.set_cons_succ, List.set_cons_zero]
                        refine anyK_skip (i := 14) rfl (by kernel_rfl) (by kernel_rfl) (by kernel_rfl) (by kernel_rfl) (fun _ _ _ h => h) (by rfl) hHeld (some 97) (by rfl) ?_
                        try simp only [Act.put, List.setIfInBounds_toArray, List.set_cons_succ, List.set_cons_zero]
                        refine anyK_take2 (i := 15) (v := ?v15_136) rfl (by kernel_rfl) (by kernel_rfl) (by kernel_rfl) (by rfl) (fun _ _ _ h => h) (by rfl) hHeld ?hy15_136 (some 98) (by rfl) ?rest15_136
                        case hy15_136 => (intro W hSw; obtain ⟨⟨x0, x1, x2, x3, x4, x5, x6, x7⟩, x8, x9, x10, x11, x12, x13, x14, x15⟩ := hSw; go_simp; (try with_reducible rfl))
                        try simp only [Act.put, List.setIfInBounds_toArray, List.set_cons_succ, List.set_cons_zero]
                        refine anyK_done (by kernel_rfl) ?_ _
                        clear hHeld
                        go_wp2_with fail
                        go_roundw
                        case rel => exact ⟨i + 1, by omega, by go_num, by rw [HCe.out], hid (by rw [HQe.out]; exact (HAf.out _ HID.out).out.1), hid (HAf.out _ HID.out).out.2.1, hid (by rw [HTe.out]; exact (HAf.out _ HID.out).out.2.2.1), hid (HAf.out _ HID.out).out.2.2.2.1, hid (HAf.out _ HID.out).out.2.2.2.2.1, (HAf.out _ HID.out).out.2.2.2.2.2.1⟩
                        case measure => simp [intOf]; omega
                      | true =>
                        replace HMi := hid (show M i = CB by rw [HMi.out, decide_eq_false hik, Bool.and_true]; rfl)
                        go_wp2
                        clear k5
                        refine region_K 99 (fun V => Box8 V bl (ofl + k * 8) ⟨xk, bk, ek, false, rk, wk, ik, ok⟩ (.slice v1 h1 f1) (.slice v2 h2 f2) ∧ BoxK V wo.heap.size xi be en al (.slice a1 n1 c1) (.slice a2 n2 c2) inn ou) (by kernel_rfl) ?_ (fun hHeld => ?_)
                        · exact HS0.out
                        generalize wr.drew = v0 at *
                        refine anyK_take2 (i := 0) (v := ?v0_137) rfl (by kernel_rfl) (by kernel_rfl) (by kernel_rfl) (by rfl) (fun _ _ _ h => h) (by rfl) hHeld ?hy0_137 (some 83) (by rfl) ?rest0_137
                        case hy0_137 => (intro W hSw; obtain ⟨⟨x0, x1, x2, x3, x4, x5, x6, x7⟩, x8, x9, x10, x11, x12, x13, x14, x15⟩ := hSw; go_simp; (try with_reducible rfl))
                        try simp only [Act.put, List.setIfInBounds_toArray, List.set_cons_succ, List.set_cons_zero]
                        refine anyK_take2 (i := 1) (v := ?v1_138) rfl (by kernel_rfl) (by kernel_rfl) (by kernel_rfl) (by rfl) (fun _ _ _ h => h) (by rfl) hHeld ?hy1_138 (some 84) (by rfl) ?rest1_138
                        case hy1_138 => (intro W hSw; obtain ⟨⟨x0, x1, x2, x3, x4, x5, x6, x7⟩, x8, x9, x10, x11, x12, x13, x14, x15⟩ := hSw; go_simp; (try with_reducible rfl))
                        try simp only [Act.put, List.setIfInBounds_toArray, List.set_cons_succ, List.set_cons_zero]
                        refine anyK_take2 (i := 2) (v := ?v2_139) rfl (by kernel_rfl) (by kernel_rfl) (by kernel_rfl) (by rfl) (fun _ _ _ h => h) (by rfl) hHeld ?hy2_139 (some 85) (by rfl) ?rest2_139
                        case hy2_139 => (intro W hSw; obtain ⟨⟨x0, x1, x2, x3, x4, x5, x6, x7⟩, x8, x9, x10, x11, x12, x13, x14, x15⟩ := hSw; go_simp; (try with_reducible rfl))
                        try simp only [Act.put, List.setIfInBounds_toArray, List.set_cons_succ, List.set_cons_zero]
                        refine anyK_take2 (i := 3) (v := ?v3_140) rfl (by kernel_rfl) (by kernel_rfl) (by kernel_rfl) (by rfl) (fun _ _ _ h => h) (by rfl) hHeld ?hy3_140 (some 86) (by rfl) ?rest3_140
                        case hy3_140 => (intro W hSw; obtain ⟨⟨x0, x1, x2, x3, x4, x5, x6, x7⟩, x8, x9, x10, x11, x12, x13, x14, x15⟩ := hSw; go_simp; (try with_reducible rfl))
                        try simp only [Act.put, List.setIfInBounds_toArray, List.set_cons_succ, List.set_cons_zero]
                        refine anyK_take2 (i := 4) (v := ?v4_141) rfl (by kernel_rfl) (by kernel_rfl) (by kernel_rfl) (by rfl) (fun _ _ _ h => h) (by rfl) hHeld ?hy4_141 (some 87) (by rfl) ?rest4_141
                        case hy4_141 => (intro W hSw; obtain ⟨⟨x0, x1, x2, x3, x4, x5, x6, x7⟩, x8, x9, x10, x11, x12, x13, x14, x15⟩ := hSw; go_simp; (try with_reducible rfl))
                        try simp only [Act.put, List.setIfInBounds_toArray, List.set_cons_succ, List.set_cons_zero]
                        refine anyK_take2 (i := 5) (v := ?v5_142) rfl (by kernel_rfl) (by kernel_rfl) (by kernel_rfl) (by rfl) (fun _ _ _ h => h) (by rfl) hHeld ?hy5_142 (some 88) (by rfl) ?rest5_142
                        case hy5_142 => (intro W hSw; obtain ⟨⟨x0, x1, x2, x3, x4, x5, x6, x7⟩, x8, x9, x10, x11, x12, x13, x14, x15⟩ := hSw; go_simp; (try with_reducible rfl))
                        try simp only [Act.put, List.setIfInBounds_toArray, List.set_cons_succ, List.set_cons_zero]
                        refine anyK_take2 (i := 6) (v := ?v6_143) rfl (by kernel_rfl) (by kernel_rfl) (by kernel_rfl) (by rfl) (fun _ _ _ h => h) (by rfl) hHeld ?hy6_143 (some 89) (by rfl) ?rest6_143
                        case hy6_143 => (intro W hSw; obtain ⟨⟨x0, x1, x2, x3, x4, x5, x6, x7⟩, x8, x9, x10, x11, x12, x13, x14, x15⟩ := hSw; go_simp; (try with_reducible rfl))
                        try simp only [Act.put, List.setIfInBounds_toArray, List.set_cons_succ, List.set_cons_zero]
                        refine anyK_take2 (i := 7) (v := ?v7_144) rfl (by kernel_rfl) (by kernel_rfl) (by kernel_rfl) (by rfl) (fun _ _ _ h => h) (by rfl) hHeld ?hy7_144 (some 90) (by rfl) ?rest7_144
                        case hy7_144 => (intro W hSw; obtain ⟨⟨x0, x1, x2, x3, x4, x5, x6, x7⟩, x8, x9, x10, x11, x12, x13, x14, x15⟩ := hSw; go_simp; (try with_reducible rfl))
                        try simp only [Act.put, List.setIfInBounds_toArray, List.set_cons_succ, List.set_cons_zero]
                        refine anyK_take2 (i := 8) (v := ?v8_145) rfl (by kernel_rfl) (by kernel_rfl) (by kernel_rfl) (by rfl) (fun _ _ _ h => h) (by rfl) hHeld ?hy8_145 (some 91) (by rfl) ?rest8_145
                        case hy8_145 => (intro W hSw; obtain ⟨⟨x0, x1, x2, x3, x4, x5, x6, x7⟩, x8, x9, x10, x11, x12, x13, x14, x15⟩ := hSw; go_simp; (try with_reducible rfl))
                        try simp only [Act.put, List.setIfInBounds_toArray, List.set_cons_succ, List.set_cons_zero]
                        refine anyK_take2 (i := 9) (v := ?v9_146) rfl (by kernel_rfl) (by kernel_rfl) (by kernel_rfl) (by rfl) (fun _ _ _ h => h) (by rfl) hHeld ?hy9_146 (some 92) (by rfl) ?rest9_146
                        case hy9_146 => (intro W hSw; obtain ⟨⟨x0, x1, x2, x3, x4, x5, x6, x7⟩, x8, x9, x10, x11, x12, x13, x14, x15⟩ := hSw; go_simp; (try with_reducible rfl))
                        try simp only [Act.put, List.setIfInBounds_toArray, List.set_cons_succ, List.set_cons_zero]
                        refine anyK_take2 (i := 10) (v := ?v10_147) rfl (by kernel_rfl) (by kernel_rfl) (by kernel_rfl) (by rfl) (fun _ _ _ h => h) (by rfl) hHeld ?hy10_147 (some 93) (by rfl) ?rest10_147
                        case hy10_147 => (intro W hSw; obtain ⟨⟨x0, x1, x2, x3, x4, x5, x6, x7⟩, x8, x9, x10, x11, x12, x13, x14, x15⟩ := hSw; go_simp; (try with_reducible rfl))
                        try simp only [Act.put, List.setIfInBounds_toArray, List.set_cons_succ, List.set_cons_zero]
                        refine anyK_take2 (i := 11) (v := ?v11_148) rfl (by kernel_rfl) (by kernel_rfl) (by kernel_rfl) (by rfl) (fun _ _ _ h => h) (by rfl) hHeld ?hy11_148 (some 94) (by rfl) ?rest11_148
                        case hy11_148 => (intro W hSw; obtain ⟨⟨x0, x1, x2, x3, x4, x5, x6, x7⟩, x8, x9, x10, x11, x12, x13, x14, x15⟩ := hSw; go_simp; (try with_reducible rfl))
                        try simp only [Act.put, List.setIfInBounds_toArray, List.set_cons_succ, List.set_cons_zero]
                        refine anyK_take2 (i := 12) (v := ?v12_149) rfl (by kernel_rfl) (by kernel_rfl) (by kernel_rfl) (by rfl) (fun _ _ _ h => h) (by rfl) hHeld ?hy12_149 (some 95) (by rfl) ?rest12_149
                        case hy12_149 => (intro W hSw; obtain ⟨⟨x0, x1, x2, x3, x4, x5, x6, x7⟩, x8, x9, x10, x11, x12, x13, x14, x15⟩ := hSw; go_simp; (try with_reducible rfl))
                        try simp only [Act.put, List.setIfInBounds_toArray, List.set_cons_succ, List.set_cons_zero]
                        refine anyK_step (i := 13) (by kernel_rfl) rfl (fun KP hK => ?_)
                        go_simp
                        refine (spec_Concurrent ⟨xk, bk, ek, false, rk, wk, ik, ok⟩ ⟨xi, be, en, al, rs, ws, inn, ou⟩ (.slice v1 h1 f1) (.slice v2 h2 f2) (.slice a1 n1 c1) (.slice a2 n2 c2) _).mono ?_
                        rintro e u ⟨rfl, b1⟩
                        rw [HCB.out]
                        have HS1 := hid (show (fun V => Box8 V bl (ofl + k * 8) ⟨xk, bk, ek, false, rk, wk, ik, ok⟩ (.slice v1 h1 f1) (.slice v2 h2 f2) ∧ BoxK V wo.heap.size xi be en al (.slice a1 n1 c1) (.slice a2 n2 c2) inn ou) u from ⟨HS0.out.1.below b1 (Nat.le_refl _), HS0.out.2.below b1 (Nat.le_refl _)⟩)
                        have HUD := hid (HID.out.trans (b1.mono HID.out.size))
                        clear b1
                        go_wp2_with fail
                        clear hHeld
                        refine hK.out _ _ HS1.out (fun hHeld => ?_)
                        clear hK KP
                        try simp only [Act.put, List.setIfInBounds_toArray, List.set_cons_succ, List.set_cons_zero]
                        cases CB with
                        | false =>
                          have hMf := HMi.out
                          have HQe := hid (qJ_no true M ps hMf)
                          have HTe := hid (show tJ true M t0 (i + 1) = tJ true M t0 i by rw [tJ_succ, hMf]; rfl)
                          have HCe := hid (show cdJ true M ts (i + 1) = cdJ true M ts i by rw [cdJ_succ, hMf]; rfl)
                          clear hMf
                          refine anyK_take2 (i := 14) (v := ?v14_150) rfl (by kernel_rfl) (by kernel_rfl) (by kernel_rfl) (by rfl) (fun _ _ _ h => h) (by rfl) hHeld ?hy14_150 (some 97) (by rfl) ?rest14_150
                          case hy14_150 => (intro W hSw; obtain ⟨⟨x0, x1, x2, x3, x4, x5, x6, x7⟩, x8, x9, x10, x11, x12, x13, x14, x15⟩ := hSw; go_simp; (try with_reducible rfl))
                          try simp only [Act.put, List.setIfInBounds_toArray, List.set_cons_succ, List.set_cons_zero]
                          refine anyK_take2 (i := 15) (v := ?v15_151) rfl (by kernel_rfl) (by kernel_rfl) (by kernel_rfl) (by rfl) (fun _ _ _ h => h) (by rfl) hHeld ?hy15_151 (some 98) (by rfl) ?rest15_151
                          case hy15_151 => (intro W hSw; obtain ⟨⟨x0, x1, x2, x3, x4, x5, x6, x7⟩, x8, x9, x10, x11, x12, x13, x14, x15⟩ := hSw; go_simp; (try with_reducible rfl))
                          try simp only [Act.put, List.setIfInBounds_toArray, List.set_cons_succ, List.set_cons_zero]
                          refine anyK_done (by kernel_rfl) ?_ _
                          clear hHeld
                          go_wp2_with fail
                          go_roundw
                          case rel => exact ⟨i + 1, by omega, by go_num, by rw [HCe.out], hid (by rw [HQe.out]; exact (HAf.out _ HUD.out).out.1), hid (HAf.out _ HUD.out).out.2.1, hid (by rw [HTe.out]; exact (HAf.out _ HUD.out).out.2.2.1), hid (HAf.out _ HUD.out).out.2.2.2.1, hid (HAf.out _ HUD.out).out.2.2.2.2.1, (HAf.out _ HUD.out).out.2.2.2.2.2.1⟩
                          case measure => simp [intOf]; omega
                        | true =>
                          have hMt := HMi.out
                          have HQe := hid (qJ_yes true M ps hMt)
                          have HTe := hid (show tJ true M t0 (i + 1) = oth false (tJ true M t0 i) by rw [tJ_succ, hMt]; rfl)
                          replace HCs := hid (show cdJ true M ts (i + 1) = if (decide (0 < en) && ou) = true then 2 else cdJ true M ts i by rw [HCs.out, hMt, Bool.true_and, HDg.out])
                          clear hMt
                          refine anyK_take2 (i := 14) (v := ?v14_152) rfl (by kernel_rfl) (by kernel_rfl) (by kernel_rfl) (by rfl) (fun _ _ _ h => h) (by rfl) hHeld ?hy14_152 (some 97) (by rfl) ?rest14_152
                          case hy14_152 => (intro W hSw; obtain ⟨⟨x0, x1, x2, x3, x4, x5, x6, x7⟩, x8, x9, x10, x11, x12, x13, x14, x15⟩ := hSw; go_simp; (try with_reducible rfl))
                          try simp only [Act.put, List.setIfInBounds_toArray, List.set_cons_succ, List.set_cons_zero]
                          refine anyK_take2 (i := 15) (v := ?v15_153) rfl (by kernel_rfl) (by kernel_rfl) (by kernel_rfl) (by rfl) (fun _ _ _ h => h) (by rfl) hHeld ?hy15_153 (some 98) (by rfl) ?rest15_153
                          case hy15_153 => (intro W hSw; obtain ⟨⟨x0, x1, x2, x3, x4, x5, x6, x7⟩, x8, x9, x10, x11, x12, x13, x14, x15⟩ := hSw; go_simp; (try with_reducible rfl))
                          try simp only [Act.put, List.setIfInBounds_toArray, List.set_cons_succ, List.set_cons_zero]
                          refine anyK_done (by kernel_rfl) ?_ _
                          clear hHeld
                          obtain ⟨f1, f2, f3, f4, f5, f6, f7, f8⟩ := (HAf.out _ HUD.out).out
                          have hne1 : ¬ wo.heap.size = w3.heap.size := by omega
                          have hne2 : ¬ w3.heap.size = wo.heap.size := by omega
                          have hgw := HGL.out
                          have z0 := cell_of_row _ _ 0 _ _ _ f7
                          have z1 := cell_of_row _ _ 1 _ _ _ f7
                          have z2 := cell_of_row _ _ 2 _ _ _ f7
                          have z3 := cell_of_row _ _ 3 _ _ _ f7
                          have z4 := cell_of_row _ _ 4 _ _ _ f7
                          have z5 := cell_of_row _ _ 5 _ _ _ f7
                          have z6 := cell_of_row _ _ 6 _ _ _ f7
                          have z7 := cell_of_row _ _ 7 _ _ _ f7
                          have zf : u.frozen? ⟨wo.heap.size, 6, none⟩ = false := frozen_of_row _ _ _ _ _ f7
                          have k7 : ∃ v, u.cell? ⟨w3.heap.size, 7, none⟩ = some v := ⟨_, by rw [cell_of_row _ _ _ _ _ _ f3]; rfl⟩
                          obtain ⟨v7, k7⟩ := k7
                          have kf : u.frozen? ⟨w3.heap.size, 7, none⟩ = false := frozen_of_row _ _ _ _ _ f3
                          -- the three steps
                          have Ka := Keeps.set (X := fun b => b = wo.heap.size) u (p := ⟨wo.heap.size, 6, none⟩) rfl (.bool true)
                          have Kb := Keeps.set (X := fun b => b = w3.heap.size) (u.setCell ⟨wo.heap.size, 6, none⟩ (.bool true)) (p := ⟨w3.heap.size, 7, none⟩) rfl (.bool true)
                          have zu2 : ((u.setCell ⟨wo.heap.size, 6, none⟩ (.bool true)).setCell ⟨w3.heap.size, 7, none⟩ (.bool true)).heap.size = u.heap.size := by rw [set_size13, set_size13]
                          have oR2 := owns_keep (owns_keep f1 Ka (fun b hb e => by
                            obtain rfl : g = b := by simpa [Value.ownBlock] using hb
                            omega)) Kb (fun b hb e => by
                            obtain rfl : g = b := by simpa [Value.ownBlock] using hb
                            omega)
                          have oR3 := owns_row8 oR2 (by rw [qJ_len]; exact HPS.out.2) hlt (⟨xi, be, en, al, rs, ws, true, ou⟩, (ps.getD i pm0).2)
                          have hth := row_there oR2 hlt
                          have ev : cellsT1 (⟨xi, be, en, al, rs, ws, true, ou⟩ : Tk) (ps.getD i pm0).2 = [.int .i64 xi, .int .i64 be, .int .i64 en, .bool al, .slice a1 n1 c1, .slice a2 n2 c2, .bool true, .bool ou] := by simp only [cellsT1, HMy.out.1, HMy.out.2]
                          simp only at oR3
                          rw [ev] at oR3
                          have Kc := Keeps.cells g [.int .i64 xi, .int .i64 be, .int .i64 en, .bool al, .slice a1 n1 c1, .slice a2 n2 c2, .bool true, .bool ou] (i * 8) ((u.setCell ⟨wo.heap.size, 6, none⟩ (.bool true)).setCell ⟨w3.heap.size, 7, none⟩ (.bool true))
                          have zu3 := size_setCells13 g [.int .i64 xi, .int .i64 be, .int .i64 en, .bool al, .slice a1 n1 c1, .slice a2 n2 c2, .bool true, .bool ou] (i * 8) ((u.setCell ⟨wo.heap.size, 6, none⟩ (.bool true)).setCell ⟨w3.heap.size, 7, none⟩ (.bool true))
                          have KK : ∀ b, b < u.heap.size → b ≠ g → b ≠ wo.heap.size → b ≠ w3.heap.size → (((u.setCell ⟨wo.heap.size, 6, none⟩ (.bool true)).setCell ⟨w3.heap.size, 7, none⟩ (.bool true)).setCells g (i * 8) [.int .i64 xi, .int .i64 be, .int .i64 en, .bool al, .slice a1 n1 c1, .slice a2 n2 c2, .bool true, .bool ou]).heap[b]? = u.heap[b]? := fun b hb q1 q2 q3 => (Kc.block b (by omega) q1).trans ((Kb.block b (by rw [set_size13]; exact hb) q3).trans (Ka.block b hb q2))
                          have r13 : (((u.setCell ⟨wo.heap.size, 6, none⟩ (.bool true)).setCell ⟨w3.heap.size, 7, none⟩ (.bool true)).setCells g (i * 8) [.int .i64 xi, .int .i64 be, .int .i64 en, .bool al, .slice a1 n1 c1, .slice a2 n2 c2, .bool true, .bool ou]).heap[wo.heap.size]? = some (.cells #[.int .i64 xi, .int .i64 be, .int .i64 en, .bool al, .slice a1 n1 c1, .slice a2 n2 c2, .bool true, .bool ou] 46) := by
                            rw [Kc.block _ (by omega) (by omega), Kb.block _ (by rw [set_size13]; exact f8) hne1, heap_setCell_same _ _ _ _ _ _ f7]; rfl
                          have r10 : (((u.setCell ⟨wo.heap.size, 6, none⟩ (.bool true)).setCell ⟨w3.heap.size, 7, none⟩ (.bool true)).setCells g (i * 8) [.int .i64 xi, .int .i64 be, .int .i64 en, .bool al, .slice a1 n1 c1, .slice a2 n2 c2, .bool true, .bool ou]).heap[w3.heap.size]? = some (.cells (cellsT1 (tJ true M t0 (i + 1)) m0).toArray 46) := by
                            rw [Kc.block _ (by omega) (by omega), heap_setCell_same _ _ _ (cellsT1 (tJ true M t0 i) m0).toArray 46 _ ((Ka.block _ (by omega) hne2).trans f3), HTe.out, List.setIfInBounds_toArray]
                            rfl
                          have hq2 : (((u.setCell ⟨wo.heap.size, 6, none⟩ (.bool true)).setCell ⟨w3.heap.size, 7, none⟩ (.bool true)).setCells g (i * 8) [.int .i64 xi, .int .i64 be, .int .i64 en, .bool al, .slice a1 n1 c1, .slice a2 n2 c2, .bool true, .bool ou]).cell? ⟨wo.heap.size, 2, none⟩ = some (.int .i64 en) := by rw [cell_of_row _ _ _ _ _ _ r13]; rfl
                          have hq7 : (((u.setCell ⟨wo.heap.size, 6, none⟩ (.bool true)).setCell ⟨w3.heap.size, 7, none⟩ (.bool true)).setCells g (i * 8) [.int .i64 xi, .int .i64 be, .int .i64 en, .bool al, .slice a1 n1 c1, .slice a2 n2 c2, .bool true, .bool ou]).cell? ⟨wo.heap.size, 7, none⟩ = some (.bool ou) := by rw [cell_of_row _ _ _ _ _ _ r13]; rfl
                          have GG1 := hid (show (((u.setCell ⟨wo.heap.size, 6, none⟩ (.bool true)).setCell ⟨w3.heap.size, 7, none⟩ (.bool true)).setCells g (i * 8) [.int .i64 xi, .int .i64 be, .int .i64 en, .bool al, .slice a1 n1 c1, .slice a2 n2 c2, .bool true, .bool ou]).ownsRow w2.heap.size 46 8 (.slice (some ⟨g, 0, none⟩) n c3) n (cP (qJ true M ps (i + 1))) by rw [HQe.out, HPi.out]; exact oR3)
                          have hXall : ∀ b, (b = g ∨ b = wo.heap.size ∨ b = w3.heap.size) → w.heap.size ≤ b := fun b hb => by rcases hb with rfl | rfl | rfl <;> omega
                          have GG2 := hid (show BandsP (((u.setCell ⟨wo.heap.size, 6, none⟩ (.bool true)).setCell ⟨w3.heap.size, 7, none⟩ (.bool true)).setCells g (i * 8) [.int .i64 xi, .int .i64 be, .int .i64 en, .bool al, .slice a1 n1 c1, .slice a2 n2 c2, .bool true, .bool ou]) w2.heap.size hi1 (ps.set k (t0, m0)) by
                            have o1 := f2.keep Ka (fun p hp b hb e => by have := (f2.own p hp).inr hb; omega)
                            have hr10 : ∀ p ∈ ps.set k (t0, m0), ∀ b, blkT p.2 b → b ≠ w3.heap.size := fun p hp b hb e => by
                              have := (f2.own p hp).inr hb
                              exact HP10.out p hp b hb e
                            have o2 := o1.keep Kb (fun p hp b hb e => hr10 p hp b hb e)
                            exact o2.off oR2 Kc)
                          have GG3 := hid r10
                          have GG4 := hid (show BoxS (((u.setCell ⟨wo.heap.size, 6, none⟩ (.bool true)).setCell ⟨w3.heap.size, 7, none⟩ (.bool true)).setCells g (i * 8) [.int .i64 xi, .int .i64 be, .int .i64 en, .bool al, .slice a1 n1 c1, .slice a2 n2 c2, .bool true, .bool ou]) w.heap.size K1 N1 F1 (.slice p1 m1 d1) K2 N2 F2 (.slice p2 m2 d2) from by
                            have e := KK w.heap.size (by omega) (by omega) (by omega) (by omega)
                            have q := f4
                            exact ⟨(World.cell?_of_block (w := u) (a := ⟨w.heap.size, 0, none⟩) e).trans q.c0, (World.cell?_of_block (w := u) (a := ⟨w.heap.size, 1, none⟩) e).trans q.c1, (World.cell?_of_block (w := u) (a := ⟨w.heap.size, 2, none⟩) e).trans q.c2, (World.cell?_of_block (w := u) (a := ⟨w.heap.size, 3, none⟩) e).trans q.c3, (World.cell?_of_block (w := u) (a := ⟨w.heap.size, 4, none⟩) e).trans q.c4, (World.cell?_of_block (w := u) (a := ⟨w.heap.size, 5, none⟩) e).trans q.c5, (World.cell?_of_block (w := u) (a := ⟨w.heap.size, 6, none⟩) e).trans q.c6, (World.cell?_of_block (w := u) (a := ⟨w.heap.size, 7, none⟩) e).trans q.c7⟩)
                          have GG5 := hid (show Below w.heap.size w (((u.setCell ⟨wo.heap.size, 6, none⟩ (.bool true)).setCell ⟨w3.heap.size, 7, none⟩ (.bool true)).setCells g (i * 8) [.int .i64 xi, .int .i64 be, .int .i64 en, .bool al, .slice a1 n1 c1, .slice a2 n2 c2, .bool true, .bool ou]) from Keeps.below ((f5.setCell (p := ⟨wo.heap.size, 6, none⟩) (by show w.heap.size ≤ wo.heap.size; omega) (.bool true)).setCell (p := ⟨w3.heap.size, 7, none⟩) (by show w.heap.size ≤ w3.heap.size; omega) (.bool true)) Kc (fun b hb => by subst hb; omega) (by omega))
                          have GG6 : W.heap.size ≤ (((u.setCell ⟨wo.heap.size, 6, none⟩ (.bool true)).setCell ⟨w3.heap.size, 7, none⟩ (.bool true)).setCells g (i * 8) [.int .i64 xi, .int .i64 be, .int .i64 en, .bool al, .slice a1 n1 c1, .slice a2 n2 c2, .bool true, .bool ou]).heap.size := by omega
                          have HTh := hid hth
                          clear f1 f2 f3 f4 f5 f6 f7 f8 Ka Kb Kc KK oR2 oR3 hth ev r13 r10 hXall hgw
                          go_wp2_with (refine wpList_store_mid rfl 46 (.tmp 104) (.tmp 103) rfl g (i * 8) #[.int .i64 xi, .int .i64 be, .int .i64 en, .bool al, .slice a1 n1 c1, .slice a2 n2 c2, .bool true, .bool ou] rfl rfl ?th ?si ?on (stopG ?_))
                          case th => exact HTh.out
                          case si => first | exact size_tk | simpa using size_tk
                          case on => simp [Value.oneCell']
                          unfold StopG
                          try rw [show (#[.int .i64 xi, .int .i64 be, .int .i64 en, .bool al, .slice a1 n1 c1, .slice a2 n2 c2, .bool true, .bool ou] : Array Value).toList = [.int .i64 xi, .int .i64 be, .int .i64 en, .bool al, .slice a1 n1 c1, .slice a2 n2 c2, .bool true, .bool ou] from rfl]
                          clear z0 z1 z2 z3 z4 z5 z6 z7 zf k7 kf
                          generalize ((u.setCell ⟨wo.heap.size, 6, none⟩ (.bool true)).setCell ⟨w3.heap.size, 7, none⟩ (.bool true)).setCells g (i * 8) [.int .i64 xi, .int .i64 be, .int .i64 en, .bool al, .slice a1 n1 c1, .slice a2 n2 c2, .bool true, .bool ou] = u3 at *
                          by_cases hen : 0 < en
                          · cases ou with
                            | true =>
                              have HCe := hid (show cdJ true M ts (i + 1) = 2 by rw [HCs.out, decide_eq_true hen]; rfl)
                              go_wp2_with fail
                              go_roundw
                              case rel => exact ⟨i + 1, by omega, by go_num, by rw [HCe.out], GG1, GG2, GG3, GG4, GG5, GG6⟩
                              case measure => simp [intOf]; omega
                            | false =>
                              have HCe := hid (show cdJ true M ts (i + 1) = cdJ true M ts i by rw [HCs.out, Bool.and_false]; rfl)
                              go_wp2_with fail
                              go_roundw
                              case rel => exact ⟨i + 1, by omega, by go_num, by rw [HCe.out], GG1, GG2, GG3, GG4, GG5, GG6⟩
                              case measure => simp [intOf]; omega
                          · have HCe := hid (show cdJ true M ts (i + 1) = cdJ true M ts i by rw [HCs.out, decide_eq_false hen]; rfl)
                            go_wp2_with fail
                            go_roundw
                            case rel => exact ⟨i + 1, by omega, by go_num, by rw [HCe.out], GG1, GG2, GG3, GG4, GG5, GG6⟩
                            case measure => simp [intOf]; omega
              · have hlt' : ¬ (i : Int) < (n : Int) := by omega
                obtain rfl : i = n := by omega
                have hps := HPS.out
                have hgw := HGL.out
                obtain ⟨tf, htf⟩ : ∃ tf, tJ true M t0 i = tf := ⟨_, rfl⟩
                have HES2 := hid (show readS ts x (⟨K1, N1, F1, Z1⟩, ⟨K2, N2, F2, Z2⟩) = ((qJ true M ps i).set k (tf, m0)).map (·.1) by rw [HES.out, HL.out, List.map_set, qJ_map, hps.1, ← htf]; rfl)
                have HEC2 := hid (show readC ts x (⟨K1, N1, F1, Z1⟩, ⟨K2, N2, F2, Z2⟩) = if (tf.inn && tf.out) = true then 2 else cdJ true M ts i by rw [HEC.out]; unfold lastC; rw [HL.out, htf])
                have hBf := qJ_last true M (by omega) i (by omega) HBP.out
                rw [htf] at hBf
                have ht10 := HT.out
                rw [htf] at ht10
                obtain ⟨xf, bf, ef, af, rf, wf, inf, ouf⟩ := tf
                obtain ⟨m0y, m0X, m0z, m0Y⟩ := m0
                obtain ⟨s1, s2, s3, s4, s5, s6, es1, es2⟩ := HM0s.out
                simp only at es1 es2
                subst es1 es2
                have z0 : wo.cell? ⟨w3.heap.size, 0, none⟩ = some (.int .i64 xf) := by rw [cell_of_row _ _ _ _ _ _ ht10]; rfl
                have z1 : wo.cell? ⟨w3.heap.size, 1, none⟩ = some (.int .i64 bf) := by rw [cell_of_row _ _ _ _ _ _ ht10]; rfl
                have z2 : wo.cell? ⟨w3.heap.size, 2, none⟩ = some (.int .i64 ef) := by rw [cell_of_row _ _ _ _ _ _ ht10]; rfl
                have z3 : wo.cell? ⟨w3.heap.size, 3, none⟩ = some (.bool af) := by rw [cell_of_row _ _ _ _ _ _ ht10]; rfl
                have z4 : wo.cell? ⟨w3.heap.size, 4, none⟩ = some (.slice s1 s2 s3) := by rw [cell_of_row _ _ _ _ _ _ ht10]; rfl
                have z5 : wo.cell? ⟨w3.heap.size, 5, none⟩ = some (.slice s4 s5 s6) := by rw [cell_of_row _ _ _ _ _ _ ht10]; rfl
                have z6 : wo.cell? ⟨w3.heap.size, 6, none⟩ = some (.bool inf) := by rw [cell_of_row _ _ _ _ _ _ ht10]; rfl
                have z7 : wo.cell? ⟨w3.heap.size, 7, none⟩ = some (.bool ouf) := by rw [cell_of_row _ _ _ _ _ _ ht10]; rfl
                have oF := owns_row8 HR.out (by rw [qJ_len]; exact hps.2) (i := k) (by have := HKN.out; have := HL.out; omega) (⟨xf, bf, ef, af, rf, wf, inf, ouf⟩, ⟨.slice s1 s2 s3, m0X, .slice s4 s5 s6, m0Y⟩)
                have hth := row_there HR.out (i := k) (by have := HKN.out; have := HL.out; omega)
                have Kc := Keeps.cells g [.int .i64 xf, .int .i64 bf, .int .i64 ef, .bool af, .slice s1 s2 s3, .slice s4 s5 s6, .bool inf, .bool ouf] (k * 8) wo
                have hOw := (hBf.off HR.out Kc).own_t (v := (.slice (some ⟨g, 0, none⟩) i c3)) (by rw [List.length_set, qJ_len, hps.2]; exact oF) (fun g' hg' => by
                  obtain rfl : g = g' := by simpa [Value.ownBlock] using hg'
                  omega)
                have HF := hid hOw.rd
                have HBF := hid (Keeps.below HB.out Kc (fun b hb => by subst hb; omega) HB.out.size)
                have k6 : (wo.setCells g (k * 8) [.int .i64 xf, .int .i64 bf, .int .i64 ef, .bool af, .slice s1 s2 s3, .slice s4 s5 s6, .bool inf, .bool ouf]).cell? ⟨w3.heap.size, 6, none⟩ = some (.bool inf) := (World.cell?_of_block (w := wo) (a := ⟨w3.heap.size, 6, none⟩) (Kc.block w3.heap.size (by omega) (by omega))).trans z6
                have k7 : (wo.setCells g (k * 8) [.int .i64 xf, .int .i64 bf, .int .i64 ef, .bool af, .slice s1 s2 s3, .slice s4 s5 s6, .bool inf, .bool ouf]).cell? ⟨w3.heap.size, 7, none⟩ = some (.bool ouf) := (World.cell?_of_block (w := wo) (a := ⟨w3.heap.size, 7, none⟩) (Kc.block w3.heap.size (by omega) (by omega))).trans z7
                have HTh := hid hth
                have HLs := hid (show (((qJ true M ps i).set k (⟨xf, bf, ef, af, rf, wf, inf, ouf⟩, ⟨.slice s1 s2 s3, m0X, .slice s4 s5 s6, m0Y⟩)).map (·.1)).length = i by rw [List.length_map, List.length_set, qJ_len]; exact hps.2)
                have hkz : (0 : Int) ≤ (k : Int) := by omega
                have hkl : (k : Int) < (i : Int) := by have := HKN.out; have := HL.out; omega
                generalize cdJ true M ts i = CD at *
                clear hOw Kc hth oF ht10 hBf htf hps
                go_wp2_with (refine wpList_store_mid rfl 46 (.tmp 115) (.tmp 114) rfl g (k * 8) #[.int .i64 xf, .int .i64 bf, .int .i64 ef, .bool af, .slice s1 s2 s3, .slice s4 s5 s6, .bool inf, .bool ouf] rfl rfl ?th ?si ?on (stopG ?_))
                case th => exact HTh.out
                case si => first | exact size_tk | simpa using size_tk
                case on => simp [Value.oneCell']
                unfold StopG
                try rw [show (#[.int .i64 xf, .int .i64 bf, .int .i64 ef, .bool af, .slice s1 s2 s3, .slice s4 s5 s6, .bool inf, .bool ouf] : Array Value).toList = [.int .i64 xf, .int .i64 bf, .int .i64 ef, .bool af, .slice s1 s2 s3, .slice s4 s5 s6, .bool inf, .bool ouf] from rfl]
                clear z0 z1 z2 z3 z4 z5 z6 z7
                generalize wo.setCells g (k * 8) [.int .i64 xf, .int .i64 bf, .int .i64 ef, .bool af, .slice s1 s2 s3, .slice s4 s5 s6, .bool inf, .bool ouf] = u3 at *
                cases inf with
                | true =>
                  cases ouf with
                  | true =>
                    have HCe := hid (show readC ts x (⟨K1, N1, F1, Z1⟩, ⟨K2, N2, F2, Z2⟩) = 2 by rw [HEC2.out]; rfl)
                    go_wp2_with fail
                    go_ret2
                    refine ⟨?_, HBF.out⟩
                    rw [HCe.out, HES2.out]
                    exact ⟨_, c3, by rw [HLs.out]; rfl, HF.out⟩
                  | false =>
                    have HCe := hid (show readC ts x (⟨K1, N1, F1, Z1⟩, ⟨K2, N2, F2, Z2⟩) = CD by rw [HEC2.out]; rfl)
                    go_wp2_with fail
                    go_ret2
                    refine ⟨?_, HBF.out⟩
                    rw [HCe.out, HES2.out]
                    exact ⟨_, c3, by rw [HLs.out]; rfl, HF.out⟩
                | false =>
                  have HCe := hid (show readC ts x (⟨K1, N1, F1, Z1⟩, ⟨K2, N2, F2, Z2⟩) = CD by rw [HEC2.out]; rfl)
                  go_wp2_with fail
                  go_ret2
                  refine ⟨?_, HBF.out⟩
                  rw [HCe.out, HES2.out]
                  exact ⟨_, c3, by rw [HLs.out]; rfl, HF.out⟩

end Go.Proofs.Ytnhlfkffllbpiaa
