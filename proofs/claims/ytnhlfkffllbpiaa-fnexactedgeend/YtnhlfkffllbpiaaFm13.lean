/- The contract of the program's EdgeEnd. Conditions: at most 2^20 tracks, texts of at most 2^20 bytes together. -/
import Derived.Test.YtnhlfkffllbpiaaMgb
import Derived.Test.YtnhlfkffllbpiaaFi13
import Derived.Test.YtnhlfkffllbpiaaEs13
namespace Go.Proofs.Ytnhlfkffllbpiaa
open Go.RowKit
set_option maxRecDepth 100000

theorem end_no {ts : List Tk} {x y : Int} {d : Bool} (h : tracksB ts = false ∨ atT ts x = none) : endS ts x y d (tracksB ts) = [] ∧ endC ts x y d (tracksB ts) = 1 := by
  unfold endS endC
  rcases h with h | h
  · rw [h]; simp
  · rw [h]
    cases tracksB ts <;> simp
theorem BandsP.one {w : World} {lo hi : Nat} {ps : List (Tk × Mt)} (h : BandsP w lo hi ps) : ∀ u ∈ cP ps, u.oneCell' = true := by
  rw [cP_cellsT]
  exact cellsT_one (by simp) (fun i hi' => by
    rw [List.length_map] at hi'
    have := (h.own _ (List.getElem_mem hi')).part.sl
    rw [show (ps.map (·.2)).getD i mt0 = ps[i].2 by simp [List.getD, hi']]
    exact this)
theorem mem_bd {ts : List Tk} (h : bdTs ts) : ∀ t ∈ ts, t.ended ≤ 9223372036854775807 := fun t ht => by
  obtain ⟨i, hi, rfl⟩ := List.getElem_of_mem ht
  have := (h i).2.2.2
  rwa [show ts.getD i tk0 = ts[i] by simp [List.getD, hi]] at this

set_option maxHeartbeats 12800000 in
theorem impl_EdgeEnd {a : Option Addr} {n : Nat} (c : Nat) {ts : List Tk} {w : World} (h : ReadsT w a ts) (hl : ts.length = n) (hn : n ≤ 1048576) (hs : sumT ts ≤ 1048576) (hbd : bdTs ts) (x y : Int) (d : Bool) (_ : -9223372036854775808 ≤ x ∧ x ≤ 9223372036854775807) (hby : -9223372036854775808 ≤ y ∧ y ≤ 9223372036854775807) :
    Calls Try.prog 38 #[.slice a n c, .int .i64 x, .int .i64 y, .bool d] w fun e w' => ∃ v, e = .returned (.tuple #[v, .int .i64 (endC ts x y d (tracksB ts))]) ∧ OwnT w' w.heap.size w'.heap.size v (endS ts x y d (tracksB ts)) ∧ Below w.heap.size w w' := by
  have HRT := hid h
  have HL := hid hl
  have HSM := hid (smT_of hs)
  have HLN := hid (lnT_of hs)
  have HBD := hid hbd
  clear h hl hs hbd
  go_enter Try.func38, Try.ntmps38
  go_wp2_with fail
  refine (impl_activeAt c HRT.out HL.out hn HSM.out HBD.out x).mono ?_
  rintro e w1 ⟨rfl, b1⟩
  replace HRT := hid (HRT.out.below b1 (Nat.le_refl _))
  have HB := hid b1
  clear b1
  rcases actP_cases ts x with ⟨h2, h3⟩ | ⟨k, hk, hok, hat⟩
  · have HE := hid (end_no (y := y) (d := d) h3)
    obtain ⟨I, hI⟩ : ∃ I, (actP ts x).1 = I := ⟨_, rfl⟩
    rw [h2, hI]
    clear h2 h3 hI
    go_wp2_with fail
    go_ret2
    refine ⟨.slice none 0 0, ?_, ?_, HB.out⟩
    · rw [HE.out.2]; rfl
    · rw [HE.out.1]; exact OwnT.nil _ _ _
  · rw [hk]
    obtain ⟨hkn, hkx, hke⟩ := atT_some hat
    have hkn' : (k : Int) < (n : Int) := by have := HL.out; omega
    have hk0 : (0 : Int) ≤ (k : Int) := by omega
    obtain ⟨b, off, a1, c1, a2, c2, rfl, bx, _, _, _, _⟩ := HRT.out.at hkn
    have HS := hid (show endS ts x y d (tracksB ts) = if y ≤ (ts.getD k tk0).begun then [] else if (d && ((ts.getD k tk0).inn && (ts.getD k tk0).out)) = true then ts else keptT (leftT ts k d y) by unfold endS; rw [hok, hat]; simp)
    have HC := hid (show endC ts x y d (tracksB ts) = if y ≤ (ts.getD k tk0).begun then 1 else if (d && ((ts.getD k tk0).inn && (ts.getD k tk0).out)) = true then 2 else 0 by unfold endC; rw [hok, hat]; simp)
    have y1 := bx.c1
    simp only
    by_cases hy : y ≤ (ts.getD k tk0).begun
    · have HE := hid (show endS ts x y d (tracksB ts) = [] ∧ endC ts x y d (tracksB ts) = 1 by rw [HS.out, HC.out, if_pos hy, if_pos hy]; exact ⟨rfl, rfl⟩)
      generalize (ts.getD k tk0).begun = bk at *
      clear hk hok hat hkx hke bx
      go_wp2_with fail
      go_ret2
      refine ⟨.slice none 0 0, ?_, ?_, HB.out⟩
      · rw [HE.out.2]; rfl
      · rw [HE.out.1]; exact OwnT.nil _ _ _
    · replace HS := hid (show endS ts x y d (tracksB ts) = if (d && ((ts.getD k tk0).inn && (ts.getD k tk0).out)) = true then ts else keptT (leftT ts k d y) by rw [HS.out, if_neg hy])
      replace HC := hid (show endC ts x y d (tracksB ts) = if (d && ((ts.getD k tk0).inn && (ts.getD k tk0).out)) = true then 2 else 0 by rw [HC.out, if_neg hy])
      have HKN := hid hkn
      have HKE := hid hke
      have hy' : ¬ y ≤ (ts.getD k tk0).begun := hy
      obtain ⟨bk, hbk⟩ : ∃ bk, (ts.getD k tk0).begun = bk := ⟨_, rfl⟩
      rw [hbk] at y1 hy hy'
      clear hk hok hat hkx hke bx hbk
      go_wp2_with fail
      clear y1
      refine (impl_copiedTracks c HRT.out HL.out hn HSM.out HLN.out).mono ?_
      rintro e w2 ⟨v, rfl, o2, b2⟩
      obtain ⟨av, cv, rfl⟩ := o2.slice
      rw [HL.out] at o2 ⊢
      obtain ⟨ps, hps, oR, hBP⟩ := o2.pairs
      rw [HL.out] at oR
      obtain ⟨g, rfl⟩ : ∃ g, av = some ⟨g, 0, none⟩ := by
        rcases oR.2 with ⟨e, h0⟩ | ⟨g, cap, cur, e, _⟩
        · have := HKN.out; have := HL.out; omega
        · cases e; exact ⟨g, rfl⟩
      have hlen : ps.length = n := by rw [← HL.out, ← hps, List.length_map]
      have hgl := (oR.lt g rfl).1
      have HB2 := hid (HB.out.trans (b2.mono HB.out.size))
      have HS1 := hid (And.intro HB.out.size b2.size)
      have HO2 := hid o2
      have HRw := hid oR
      have HBP := hid hBP
      have HPS := hid (And.intro hps hlen)
      have HGL := hid hgl
      obtain ⟨b', off', q1, d1, q2, d2, e', bx, _, _, _, _⟩ := o2.rd.at HKN.out
      obtain ⟨rfl, rfl⟩ : g = b' ∧ 0 = off' := by simpa using e'
      rw [Nat.zero_add] at bx
      clear o2 b2 oR hBP hps hlen hgl e' HB
      cases d with
      | true =>
        obtain ⟨tk, htk⟩ : ∃ tk, ts.getD k tk0 = tk := ⟨_, rfl⟩
        have HTK := hid htk
        rw [htk] at HS HC bx
        clear htk
        obtain ⟨xi, be, en, al, rs, ws, inn, ou⟩ := tk
        obtain ⟨z0, z1, z2, z3, z4, z5, z6, z7⟩ := bx
        simp only at z0 z1 z2 z3 z4 z5 z6 z7
        generalize rs.length = n1 at *
        generalize ws.length = n2 at *
        have hz2' : ∃ v, w2.cell? ⟨g, k * 8 + 2, none⟩ = some v := ⟨_, z2⟩
        have HZ2 := hid z2
        go_wp2_with fail
        clear z0 z1 z2 z3 z4 z5 z6 z7
        refine (impl_isBetween ⟨xi, be, en, al, rs, ws, inn, ou⟩ (.slice q1 n1 d1) (.slice q2 n2 d2) _).mono ?_
        rintro e w3 ⟨rfl, b3⟩
        simp only
        replace HO2 := hid (HO2.out.below b3 (Nat.le_refl _))
        replace HRw := hid (owns_below b3 (Nat.le_refl _) HRw.out)
        replace HB2 := hid (HB2.out.trans (b3.mono HB2.out.size))
        have HZ3 := hid ((b3.cell (p := ⟨g, k * 8 + 2, none⟩) (World.block_lt_of_cell? _ _ HZ2.out)).trans HZ2.out)
        have HS3 := hid b3.size
        clear b3 HZ2 hz2'
        cases hio : (inn && ou) with
        | true =>
          have HE := hid (show endS ts x y true (tracksB ts) = ts ∧ endC ts x y true (tracksB ts) = 2 by
            rw [HS.out, HC.out]
            simp only [hio, Bool.and_self, if_true]
            exact ⟨trivial, trivial⟩)
          clear hio
          go_wp2_with fail
          go_ret2
          refine ⟨.slice (some ⟨g, 0, none⟩) n cv, ?_, ?_, HB2.out⟩
          · rw [HE.out.2]; rfl
          · rw [HE.out.1]; exact HO2.out.mono HS1.out.1 HS3.out
        | false =>
          have HE := hid (show endS ts x y true (tracksB ts) = keptT (leftT ts k true y) ∧ endC ts x y true (tracksB ts) = 0 by
            rw [HS.out, HC.out]
            simp only [hio, Bool.and_false, Bool.false_eq_true, if_false]
            exact ⟨trivial, trivial⟩)
          have HLf := hid (left_true ts HKN.out y)
          have z2 := HZ3.out
          have zf : w3.frozen? ⟨g, k * 8 + 2, none⟩ = false := HRw.out.frozenAt (k * 8 + 2)
          have HO3 := hid (OwnT.cell (q := 2) (u := .int .i64 y) (t' := endT (ts.getD k tk0) y) HO2.out HL.out (k := k) (by have := HKN.out; have := HL.out; omega) (by omega) rfl rfl (fun m => rfl))
          have HB3 := hid (HB2.out.setCell (p := ⟨g, k * 8 + 2, none⟩) (by have := HGL.out; have := HS1.out; show w.heap.size ≤ g; omega) (.int .i64 y))
          have HZs := hid (set_size13 w3 ⟨g, k * 8 + 2, none⟩ (.int .i64 y))
          have HLs := hid (show (ts.set k (endT (ts.getD k tk0) y)).length = n by rw [List.length_set]; exact HL.out)
          have HBs := hid (show ∀ t ∈ ts.set k (endT (ts.getD k tk0) y), t.ended ≤ 9223372036854775807 from fun t ht => by
            rcases List.mem_or_eq_of_mem_set ht with q | rfl
            · exact mem_bd HBD.out t q
            · exact hby.2)
          clear hio HZ3
          go_wp2_with fail
          clear z2 zf
          refine (impl_withoutPassed HO3.out HLs.out hn (by have := HZs.out; have := HS3.out; omega) HBs.out).mono ?_
          rintro e w4 ⟨v4, rfl, o4, k4⟩
          have HO4 := hid o4
          have HB4 := hid (Keeps.below HB3.out k4 (fun b hb => by
            obtain rfl : g = b := by simpa [Value.ownBlock] using hb
            have := HGL.out; have := HS1.out; omega) (by have := HZs.out; have := HS3.out; have := HS1.out; omega))
          have HS4 := hid k4.size
          clear o4 k4
          go_wp2_with fail
          go_ret2
          refine ⟨v4, ?_, ?_, HB4.out⟩
          · rw [HE.out.2]; rfl
          · rw [HE.out.1, HLf.out]
            exact HO4.out.mono HS1.out.1 (by have := HS4.out; have := HZs.out; have := HS3.out; omega)
      | false =>
        have HE := hid (show endS ts x y false (tracksB ts) = keptT (leftT ts k false y) ∧ endC ts x y false (tracksB ts) = 0 by
          rw [HS.out, HC.out]
          simp only [Bool.false_and, Bool.false_eq_true, if_false]
          exact ⟨trivial, trivial⟩)
        have HLf := hid (left_false ts HKN.out y)
        obtain ⟨r, hr⟩ : ∃ r, n = k + 1 + r := ⟨n - (k + 1), by have := HKN.out; have := HL.out; omega⟩
        subst hr
        have HPL := hid (show (ps.take k ++ ps.drop (k + 1)).length = k + r by rw [List.length_append, List.length_take, List.length_drop, HPS.out.2]; omega)
        have HPM := hid (show (ps.take k ++ ps.drop (k + 1)).map (·.1) = ts.take k ++ ts.drop (k + 1) by rw [List.map_append, List.map_take, List.map_drop, HPS.out.1])
        clear bx hy hy'
        go_wp2_with fail
        refine (delete_track k r HPS.out.2 HRw.out (by omega) HBP.out.one).mono ?_
        rintro e w3 ⟨rfl, o3, k3⟩
        have hb3 := (HBP.out.off HRw.out k3).sub (qs := ps.take k ++ ps.drop (k + 1)) (by
          have := List.Sublist.append (List.Sublist.refl (ps.take k)) (List.drop_sublist 1 (ps.drop k))
          rw [List.drop_drop, List.take_append_drop] at this
          exact this)
        have HO3 := hid (hb3.own_t (v := .slice (some ⟨g, 0, none⟩) (k + r) cv) (by rw [HPL.out]; exact o3) HO2.out.top)
        have HB3 := hid (Keeps.below HB2.out k3 (fun b hb => by subst hb; have := HGL.out; have := HS1.out; omega) (by have := HS1.out; omega))
        have HS3 := hid k3.size
        rw [HPM.out] at HO3
        have HLs := hid (show (ts.take k ++ ts.drop (k + 1)).length = k + r by rw [← HPM.out, List.length_map]; exact HPL.out)
        have HBs := hid (show ∀ t ∈ ts.take k ++ ts.drop (k + 1), t.ended ≤ 9223372036854775807 from fun t ht => by
          rcases List.mem_append.1 ht with q | q
          · exact mem_bd HBD.out t (List.mem_of_mem_take q)
          · exact mem_bd HBD.out t (List.mem_of_mem_drop q))
        clear o3 k3 hb3
        go_wp2_with fail
        refine (impl_withoutPassed HO3.out HLs.out (by omega) HS3.out HBs.out).mono ?_
        rintro e w4 ⟨v4, rfl, o4, k4⟩
        have HO4 := hid o4
        have HB4 := hid (Keeps.below HB3.out k4 (fun b hb => by
          obtain rfl : g = b := by simpa [Value.ownBlock] using hb
          have := HGL.out; have := HS1.out; omega) (by have := HS3.out; have := HS1.out; omega))
        have HS4 := hid k4.size
        clear o4 k4
        go_wp2_with fail
        go_ret2
        refine ⟨v4, ?_, ?_, HB4.out⟩
        · rw [HE.out.2]; rfl
        · rw [HE.out.1, HLf.out]
          exact HO4.out.mono HS1.out.1 (by have := HS4.out; have := HS3.out; omega)
end Go.Proofs.Ytnhlfkffllbpiaa
