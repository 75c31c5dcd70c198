/- FnExactPageBytes's walk. -/
import Derived.Test.YtdfieopdbpklnaaCb
import Derived.Test.YtdfieopdbpklnaaPy
import Derived.Test.YtdfieopdbpklnaaRk3
import Derived.Deep.RegionHeld3
namespace Go.Proofs.Ytdfieopdbpklnaa
open Go.RowKit
set_option maxRecDepth 100000

set_option maxHeartbeats 12800000 in
theorem exactPageBytes (L : Int) {a : Option Addr} {n : Nat} (c : Nat) {ss : List (List Int)} {w : World} (h : ReadsS w a ss) (hl : ss.length = n) (hn0 : n ≤ maxLen) :
    Calls Try.prog 10 #[.agg #[.int .i64 L, .slice a n c]] w fun e w' => e = .returned (.bool true) ∧ Below w.heap.size w w' := by
  unfold maxLen at hn0
  have HA0 := hid h
  have HA := hid (ArgP.new L n c h 41 w.heap.size rfl)
  have HB := hid (Below.alloc1 w (.cells #[.int .i64 L, .slice a n c] 41))
  clear h
  go_enter Try.func10, Try.ntmps10
  go_wp2_with fail
  have S0 := hid (alloc_size w (.cells #[.int .i64 L, .slice a n c] 41))
  generalize w.alloc (.cells #[.int .i64 L, .slice a n c] 41) = W0 at *
  refine (szPage L c HA.out.reads hl (by omega)).mono ?_
  rintro e w1 ⟨rfl, b⟩
  replace HA := hid (HA.out.below b (Nat.le_refl _))
  replace HB := hid (HB.out.trans (b.mono HB.out.size))
  have S1 := hid (b.size)
  clear b
  by_cases hbig : (1048576 : Int) < (n + tot ss : Nat)
  · rw [show lft 1048576 (n + tot ss) = -1 by unfold lft; rw [if_pos hbig]]
    go_wp2_with fail
    go_ret
    exact ⟨rfl, HB.out⟩
  obtain ⟨LF, hLF⟩ : ∃ LF : Int, (1048576 : Int) - (n + tot ss : Nat) = LF := ⟨_, rfl⟩
  rw [show lft 1048576 (n + tot ss) = LF by unfold lft; rw [if_neg hbig, hLF]]
  have hq0 : ¬ LF < 0 := by omega
  have hn : n ≤ 1048576 := by omega
  have HT := hid (show tot ss ≤ 1048576 by omega)
  have HS5 := hid (fun i => show (ss.getD i []).length ≤ 2097152 by have := tot_at ss i; have := HT.out; omega)
  clear hbig hLF
  obtain ⟨RZ, hRZ⟩ : ∃ RZ, bytesP L ss = RZ := ⟨_, rfl⟩
  obtain ⟨m, hm⟩ : ∃ m, RZ.length = m := ⟨_, rfl⟩
  have hm256 : m ≤ 256 := by
    rw [← hm, ← hRZ]
    cases h5 : okP L ss with
    | false => rw [bytesP_no h5]; simp
    | true => rw [bytesP_len h5]; omega
  have HBD := hid (show ∀ i, 0 ≤ RZ.getD i 0 ∧ RZ.getD i 0 ≤ 255 from by rw [← hRZ]; exact bytesP_bd HA0.out.bd)
  have HRZ := hid hRZ
  have HM := hid hm
  clear hRZ hm
  obtain ⟨y00, y01⟩ := HA.out.box
  go_wp2_with fail
  clear y00 y01
  clear hq0
  refine (toPage L c HA.out.reads hl (by omega) HS5.out).mono ?_
  rintro e w2 ⟨gg, rfl, o, b⟩
  replace HA := hid (HA.out.below b (Nat.le_refl _))
  replace HB := hid (HB.out.trans (b.mono HB.out.size))
  have S2 := hid (b.size)
  clear b
  have P := hid o.rd
  clear o
  go_wp2_with fail
  refine (spec_PageBytes L n P.out hl).mono ?_
  rintro e w3 ⟨v0, rfl, o, b⟩
  rw [HRZ.out, HM.out] at o
  replace HA := hid (HA.out.below b (Nat.le_refl _))
  replace P := hid (P.out.below b (Nat.le_refl _))
  replace HB := hid (HB.out.trans (b.mono HB.out.size))
  have S3 := hid (b.size)
  obtain ⟨adQ0, capQ0, rfl, q, d⟩ := Reads.own o HBD.out
  have Q0 := hid q
  have D0 := hid d
  clear o b q d
  clear P
  obtain ⟨y00, y01⟩ := HA.out.box
  go_wp2_with fail
  clear y00 y01
  refine (toPage L c HA.out.reads hl (by omega) HS5.out).mono ?_
  rintro e w4 ⟨gx, rfl, o, b⟩
  replace HA := hid (HA.out.below b (Nat.le_refl _))
  replace Q0 := hid (Q0.out.below b (Nat.le_refl _))
  replace HB := hid (HB.out.trans (b.mono HB.out.size))
  have S4 := hid (b.size)
  clear b
  have OX := hid o
  clear o
  go_wp2_with fail
  have HX := hid (OwnB.new (n := n) (c := n) L OX.out 26 w4.heap.size rfl)
  have bA := Below.alloc1 w4 (.cells #[.int .i64 L, .slice (some ⟨gx, 0, none⟩) n n] 26)
  replace HA := hid (HA.out.below bA (Nat.le_refl _))
  replace Q0 := hid (Q0.out.below bA (Nat.le_refl _))
  replace HB := hid (HB.out.trans (bA.mono HB.out.size))
  have S5 := hid (alloc_size w4 (.cells #[.int .i64 L, .slice (some ⟨gx, 0, none⟩) n n] 26))
  clear bA
  generalize w4.alloc (.cells #[.int .i64 L, .slice (some ⟨gx, 0, none⟩) n n] 26) = t1 at *
  clear OX
  refine (impl_PageBytes L n HX.out.reads hl (by omega)).mono ?_
  rintro e w5 ⟨v1, rfl, o, b⟩
  rw [HRZ.out, HM.out] at o
  replace HA := hid (HA.out.below b (Nat.le_refl _))
  replace Q0 := hid (Q0.out.below b (Nat.le_refl _))
  replace HX := hid (HX.out.below b (Nat.le_refl _))
  replace HB := hid (HB.out.trans (b.mono HB.out.size))
  have S6 := hid (b.size)
  obtain ⟨adQ1, capQ1, rfl, q, d⟩ := Reads.own o HBD.out
  have Q1 := hid q
  have O1 := hid o
  have D1 := hid d
  clear o b q d
  go_wp2_with fail
  refine (eqByteS_any capQ1 capQ0 Q1.out Q0.out (by omega)).mono ?_
  rintro e w6 ⟨rfl, st⟩
  have b := st.below w5.heap.size
  clear st
  replace HA := hid (HA.out.below b (Nat.le_refl _))
  replace Q0 := hid (Q0.out.below b (Nat.le_refl _))
  replace HX := hid (HX.out.below b (Nat.le_refl _))
  replace Q1 := hid (Q1.out.below b (Nat.le_refl _))
  replace O1 := hid (owns_below b (Nat.le_refl _) O1.out)
  replace HB := hid (HB.out.trans (b.mono HB.out.size))
  have S7 := hid (b.size)
  clear b
  go_wp2_with fail
  replace HA := hid (HA.out.below ((Still.drew w6).below _) (Nat.le_refl _))
  replace Q0 := hid (Q0.out.below ((Still.drew w6).below _) (Nat.le_refl _))
  replace HX := hid (HX.out.below ((Still.drew w6).below _) (Nat.le_refl _))
  replace Q1 := hid (Q1.out.below ((Still.drew w6).below _) (Nat.le_refl _))
  replace O1 := hid (owns_below ((Still.drew w6).below _) (Nat.le_refl _) O1.out)
  replace HB := hid (HB.out.trans (((Still.drew w6).below _).mono HB.out.size))
  have S8 := hid ((Still.drew w6).size)
  refine region_K 99 (fun W => BoxP W w.heap.size L a n c ∧ BoxP W w4.heap.size L (some ⟨gx, 0, none⟩) n n) (by kernel_rfl) ?_ (fun hHeld => ?_)
  · exact ⟨HA.out.box, HX.out.box⟩
  generalize w6.drew = v0 at *
  refine anyK_take2 (i := 0) (v := ?v1) rfl (by kernel_rfl) (by kernel_rfl) (by kernel_rfl) (by rfl) (fun _ _ _ h => h) (by rfl) hHeld ?hy1 (some 27) (by rfl) ?rest1
  case hy1 => (intro W hSw; obtain ⟨⟨r0, r1⟩, ⟨r2, r3⟩⟩ := hSw; go_simp; (try with_reducible rfl))
  try simp only [Act.put]
  try simp only [List.setIfInBounds_toArray]
  try simp only [List.set_cons_succ, List.set_cons_zero]
  refine anyK_take2 (i := 1) (v := ?v2) rfl (by kernel_rfl) (by kernel_rfl) (by kernel_rfl) (by rfl) (fun _ _ _ h => h) (by rfl) hHeld ?hy2 (some 28) (by rfl) ?rest2
  case hy2 => (intro W hSw; obtain ⟨⟨r0, r1⟩, ⟨r2, r3⟩⟩ := hSw; go_simp; (try with_reducible rfl))
  try simp only [Act.put]
  try simp only [List.setIfInBounds_toArray]
  try simp only [List.set_cons_succ, List.set_cons_zero]
  refine anyK_step (i := 2) (by kernel_rfl) rfl (fun KP hK => ?_)
  go_simp
  refine (toPage L c HA.out.reads hl (by omega) HS5.out).mono ?_
  rintro e w7 ⟨gy, rfl, o, b⟩
  replace HA := hid (HA.out.below b (Nat.le_refl _))
  replace Q0 := hid (Q0.out.below b (Nat.le_refl _))
  replace HX := hid (HX.out.below b (Nat.le_refl _))
  replace Q1 := hid (Q1.out.below b (Nat.le_refl _))
  replace O1 := hid (owns_below b (Nat.le_refl _) O1.out)
  replace HB := hid (HB.out.trans (b.mono HB.out.size))
  have S9 := hid (b.size)
  clear b
  have PY := hid o.rd
  clear o
  go_wp2_with fail
  refine hK.out _ _ ?_ (fun hH2 => ?_)
  · exact ⟨HA.out.box, HX.out.box⟩
  clear hK KP hHeld
  have hHeld := hH2
  clear hH2
  try simp only [Act.put]
  try simp only [List.setIfInBounds_toArray]
  try simp only [List.set_cons_succ, List.set_cons_zero]
  refine anyK_step (i := 3) (by kernel_rfl) rfl (fun KP hK => ?_)
  go_simp
  refine (eqPage L n n HX.out.reads PY.out hl (by omega) HS5.out).mono ?_
  rintro e w8 ⟨rfl, b⟩
  replace HA := hid (HA.out.below b (Nat.le_refl _))
  replace Q0 := hid (Q0.out.below b (Nat.le_refl _))
  replace HX := hid (HX.out.below b (Nat.le_refl _))
  replace Q1 := hid (Q1.out.below b (Nat.le_refl _))
  replace O1 := hid (owns_below b (Nat.le_refl _) O1.out)
  replace PY := hid (PY.out.below b (Nat.le_refl _))
  replace HB := hid (HB.out.trans (b.mono HB.out.size))
  have S10 := hid (b.size)
  clear b
  clear PY
  go_wp2_with fail
  refine hK.out _ _ ?_ (fun hH2 => ?_)
  · exact ⟨HA.out.box, HX.out.box⟩
  clear hK KP hHeld
  have hHeld := hH2
  clear hH2
  try simp only [Act.put]
  try simp only [List.setIfInBounds_toArray]
  try simp only [List.set_cons_succ, List.set_cons_zero]
  refine anyK_step (i := 4) (by kernel_rfl) rfl (fun KP hK => ?_)
  go_simp
  refine hK.out _ _ ?_ (fun hH2 => ?_)
  · exact ⟨HA.out.box, HX.out.box⟩
  clear hK KP hHeld
  have hHeld := hH2
  clear hH2
  try simp only [Act.put]
  try simp only [List.setIfInBounds_toArray]
  try simp only [List.set_cons_succ, List.set_cons_zero]
  refine anyK_done (by kernel_rfl) ?_ _
  clear hHeld
  obtain ⟨y00, y01⟩ := HX.out.box
  go_wp2_with fail
  clear y00 y01
  refine (markPage L n 1 HX.out.own (Nat.le_of_lt HX.out.lt) hl (by omega) (by have := HT.out; omega) (by omega) (by omega)).mono ?_
  rintro e w9 ⟨rfl, _, g⟩
  have zS0 := S0.out
  have zS1 := S1.out
  have zS2 := S2.out
  have zS3 := S3.out
  have zS4 := S4.out
  have zS5 := S5.out
  have zS6 := S6.out
  have zS7 := S7.out
  have zS8 := S8.out
  have zS9 := S9.out
  have zS10 := S10.out
  have hxl := HX.out.lt
  replace HB := hid (HB.out.trans ((g.below (by omega)).mono (show w.heap.size ≤ w3.heap.size by omega)))
  replace HA := hid (HA.out.within g (.inl (by omega)) (HA0.out.below HB.out (Nat.le_refl _)))
  replace Q0 := hid (Q0.out.within7 g (in_rng7 D0.out (.inl (by omega))))
  replace Q1 := hid (Q1.out.within7 g (in_rng7 D1.out (.inr (by omega))))
  replace O1 := hid (owns_within7 g O1.out (own_rng7 D1.out (.inr (by omega))))
  have S11 := hid (g.size)
  clear HX g hxl zS0 zS1 zS2 zS3 zS4 zS5 zS6 zS7 zS8 zS9 zS10
  have hk : ¬ (1 + (tot ss : Int)) < 0 := by omega
  go_wp2_with fail
  refine (eqByteS_any capQ1 capQ0 Q1.out Q0.out (by omega)).mono ?_
  rintro e w10 ⟨rfl, st⟩
  have b := st.below w9.heap.size
  clear st
  replace HA := hid (HA.out.below b (Nat.le_refl _))
  replace Q0 := hid (Q0.out.below b (Nat.le_refl _))
  replace Q1 := hid (Q1.out.below b (Nat.le_refl _))
  replace O1 := hid (owns_below b (Nat.le_refl _) O1.out)
  replace HB := hid (HB.out.trans (b.mono HB.out.size))
  have S12 := hid (b.size)
  clear b
  clear hk Q1
  go_wp2_with fail
  refine (markByteS_any 1 (by omega) (by omega) (by omega) O1.out).mono ?_
  rintro e w11 ⟨rfl, o, g⟩
  obtain ⟨_, _, e1, r, _⟩ := Reads.own o (marks_bd 1 m)
  obtain ⟨rfl, _, rfl⟩ := Value.slice.inj e1
  have zS0 := S0.out
  have zS1 := S1.out
  have zS2 := S2.out
  have zS3 := S3.out
  have zS4 := S4.out
  have zS5 := S5.out
  have zS6 := S6.out
  have zS7 := S7.out
  have zS8 := S8.out
  have zS9 := S9.out
  have zS10 := S10.out
  have zS11 := S11.out
  have zS12 := S12.out
  have g' : Within t1.heap.size w10.heap.size w10 w11 := Within.grown g (fun k hk => ⟨own_ge D1.out k hk, (O1.out.lt k hk).2⟩)
  replace HB := hid (HB.out.trans ((g'.below (by omega)).mono (show w.heap.size ≤ t1.heap.size by omega)))
  replace HA := hid (HA.out.within g' (.inl (by omega)) (HA0.out.below HB.out (Nat.le_refl _)))
  replace Q0 := hid (Q0.out.within7 g' (in_rng7 D0.out (.inl (by omega))))
  have HM1 := hid r
  have S13 := hid (g'.size)
  clear o e1 r g g' O1 zS0 zS1 zS2 zS3 zS4 zS5 zS6 zS7 zS8 zS9 zS10 zS11 zS12
  have hk : ¬ (1 + (m : Int)) < 0 := by omega
  have hk5 : (1 + (m : Int) != 1 + (m : Int)) = false := by simp
  go_wp2_with fail
  refine (heldByteS_any capQ1 1 HM1.out (by omega) (by omega) (by omega)).mono ?_
  rintro e w12 ⟨rfl, e1⟩
  subst w12
  obtain ⟨y00, y01⟩ := HA.out.box
  go_wp2_with fail
  clear y00 y01
  refine (toPage L c HA.out.reads hl (by omega) HS5.out).mono ?_
  rintro e w13 ⟨gz, rfl, o, b⟩
  replace HA := hid (HA.out.below b (Nat.le_refl _))
  replace Q0 := hid (Q0.out.below b (Nat.le_refl _))
  replace HM1 := hid (HM1.out.below b (Nat.le_refl _))
  replace HB := hid (HB.out.trans (b.mono HB.out.size))
  have S14 := hid (b.size)
  clear b
  have P := hid o.rd
  clear o
  go_wp2_with fail
  refine (impl_PageBytes L n P.out hl (by omega)).mono ?_
  rintro e w14 ⟨v2, rfl, o, b⟩
  rw [HRZ.out, HM.out] at o
  replace HA := hid (HA.out.below b (Nat.le_refl _))
  replace Q0 := hid (Q0.out.below b (Nat.le_refl _))
  replace HM1 := hid (HM1.out.below b (Nat.le_refl _))
  replace P := hid (P.out.below b (Nat.le_refl _))
  replace HB := hid (HB.out.trans (b.mono HB.out.size))
  have S15 := hid (b.size)
  obtain ⟨adQ2, capQ2, rfl, q, d⟩ := Reads.own o HBD.out
  have Q2 := hid q
  clear o b q d
  clear P
  go_wp2_with fail
  refine (eqByteS_any capQ2 capQ0 Q2.out Q0.out (by omega)).mono ?_
  rintro e w15 ⟨rfl, st⟩
  have b := st.below w14.heap.size
  clear st
  replace HA := hid (HA.out.below b (Nat.le_refl _))
  replace Q0 := hid (Q0.out.below b (Nat.le_refl _))
  replace HM1 := hid (HM1.out.below b (Nat.le_refl _))
  replace Q2 := hid (Q2.out.below b (Nat.le_refl _))
  replace HB := hid (HB.out.trans (b.mono HB.out.size))
  have S16 := hid (b.size)
  clear b
  go_wp2_with fail
  refine (heldByteS_any capQ1 1 HM1.out (by omega) (by omega) (by omega)).mono ?_
  rintro e w16 ⟨rfl, e1⟩
  subst w16
  go_wp2_with fail
  go_ret
  exact ⟨rfl, HB.out⟩
end Go.Proofs.Ytdfieopdbpklnaa
