/- The contract of the program's body. Conditions: a page. -/
import Derived.Test.YtdfieopdbpklnaaPr
import Derived.Test.YtdfieopdbpklnaaPv
import Derived.Test.YtdfieopdbpklnaaWi
namespace Go.Proofs.Ytdfieopdbpklnaa
open Go.RowKit
set_option maxRecDepth 100000

/-- A row of the call's own, as a row that is read. -/
theorem row_of {w : World} {base m : Nat} {a : Option Addr} {c : Nat} {zs : List Int} (o : w.ownsRow base 5 1 (.slice a m c) m (bys zs)) (hb : bdZ zs) (hm : m ≤ 9223372036854775807) : Row w (.slice a m c) zs := by
  have hl : zs.length = m := by have := o.1; simpa [bys] using this
  subst hl
  exact Row.own o hb
theorem reads_two {w : World} {g : Nat} {v1 v2 : Value} {z1 z2 : List Int} {t : TypeId} (h : w.heap[g]? = some (.cells #[v1, v2] t (0, 0))) (r1 : Row w v1 z1) (r2 : Row w v2 z2) : ReadsS w (some ⟨g, 0, none⟩) [z1, z2] := by
  refine ⟨.inr ⟨g, 0, rfl, fun i hi => ?_⟩⟩
  simp at hi
  match i, hi with
  | 0, _ => exact ⟨v1, by rw [cell_of_row _ _ _ _ _ _ h]; rfl, r1⟩
  | 1, _ => exact ⟨v2, by rw [cell_of_row _ _ _ _ _ _ h]; rfl, r2⟩
theorem reads_three {w : World} {g : Nat} {v1 v2 v3 : Value} {z1 z2 z3 : List Int} {t : TypeId} (h : w.heap[g]? = some (.cells #[v1, v2, v3] t (0, 0))) (r1 : Row w v1 z1) (r2 : Row w v2 z2) (r3 : Row w v3 z3) : ReadsS w (some ⟨g, 0, none⟩) [z1, z2, z3] := by
  refine ⟨.inr ⟨g, 0, rfl, fun i hi => ?_⟩⟩
  simp at hi
  match i, hi with
  | 0, _ => exact ⟨v1, by rw [cell_of_row _ _ _ _ _ _ h]; rfl, r1⟩
  | 1, _ => exact ⟨v2, by rw [cell_of_row _ _ _ _ _ _ h]; rfl, r2⟩
  | 2, _ => exact ⟨v3, by rw [cell_of_row _ _ _ _ _ _ h]; rfl, r3⟩
theorem putL1 (n : Nat) (h : n ≤ 16) : putL (n : Int) 1 = [(n : Int)] := by
  rw [show (1 : Int) = ((1 : Nat) : Int) from rfl, putL_yes n 1 (by omega) (by omega) (by simp [sh]; omega)]
  simp [dig, sh]; omega

set_option maxHeartbeats 6400000 in
theorem impl_body (L : Int) {a : Option Addr} {n : Nat} (c : Nat) {ss : List (List Int)} {w : World} (h : ReadsS w a ss) (hl : ss.length = n) (hok : okP L ss = true) :
    Calls Try.prog 60 #[.agg #[.int .i64 L, .slice a n c]] w fun e w' => ∃ g c', e = .returned (.slice (some ⟨g, 0, none⟩) 240 c') ∧ w'.ownsRow w.heap.size 5 1 (.slice (some ⟨g, 0, none⟩) 240 c') 240 (bys (bodyP ss)) ∧ Below w.heap.size w w' := by
  obtain ⟨i0, hi, hz0, hz1, hz2⟩ := info_parts Try.info5
  have HX0 := hid (ArgP.new L n c h 26 w.heap.size rfl)
  have HB0 := hid (Below.alloc1 w (.cells #[.int .i64 L, .slice a n c] 26))
  have hn16 : n ≤ 16 := by have := (okP_of hok).n; omega
  have HZ := hid (okP_of hok).z
  have HTT := hid (okP_of hok).t
  have HHB := hid (headP_bd hok)
  have HSB := hid h.bd
  have HBD := hid (bodyP_bd hok h.bd)
  have HP1 := hid (putL1 n hn16)
  clear h hok
  go_enter Try.func60, Try.ntmps60
  go_wp2_with fail
  generalize w.alloc (.cells #[.int .i64 L, .slice a n c] 26) = W at *
  have HS0 := hid (show w.heap.size < W.heap.size from HX0.out.lt)
  go_loopw [3, 10] (fun s i wr => ∃ (k : Nat) (a1 : Option Addr) (c1 : Nat), k ≤ n ∧ i = .int .i64 k ∧ s = .slice a1 k c1 ∧ Hid (wr.ownsRow W.heap.size 5 1 (.slice a1 k c1) k (bys (lensP (ss.take k)))) ∧ Hid (Below W.heap.size W wr)) (fun _ i _ => n - (intOf i).toNat)
  case atStart => exact ⟨0, none, 0, Nat.zero_le _, rfl, rfl, hid (World.ownsRow_nil _ _ _ _), hid (Below.refl _ _)⟩
  case round =>
    obtain ⟨k, a1, c1, hk, rfl, rfl, HO, HW⟩ := hrel
    have HX := hid (HX0.out.below HW.out (Nat.le_refl _))
    by_cases hlt : k < n
    · have hlt' : (k : Int) < (n : Int) := by omega
      have hk0 : (0 : Int) ≤ (k : Int) := by omega
      rcases HX.out.reads.cells with h0 | ⟨b, off, rfl, hc⟩
      · omega
      obtain ⟨v, hcx, ax, cx, rfl, hr0, _, _⟩ := hc k (by omega)
      have HT := hid (lensP_snoc ss k (by omega))
      have hz92 := HZ.out k
      obtain ⟨z, hz⟩ : ∃ z, (ss.getD k []).length = z := ⟨_, rfl⟩
      rw [hz] at hcx HT hz92
      have hw8 := wrap8 z (by omega)
      clear hc hr0 hz
      go_wp2_with (at_builtin; refine wpList_append_row rfl _ _ 22 rfl W.heap.size 5 i0 (.int .u8 0) 1 1 Try.underlying22 hi hz0 hz1 hz2 rfl (by decide) _ _ _ rfl (HO.out.alloc _) (some ⟨wr.heap.size, 0, none⟩) 1 1 [.int .u8 (z : Int)] rfl ?b1 (.inr ⟨_, rfl, World.news_of_block (heap_alloc_new wr _)⟩) ?b5 ?b2 ?b3 ?b4 ?b6 ?_)
      case b1 => rfl
      case b5 => exact fun e => by cases e
      case b2 => intro u hu; simp at hu; subst hu; rfl
      case b3 => unfold maxLen; omega
      case b4 => omega
      case b6 => have := HW.out.size; simp; omega
      intro a2 c2 w2 o g
      have HO2 := hid (show w2.ownsRow W.heap.size 5 1 (.slice a2 (k + 1) c2) (k + 1) (bys (lensP (ss.take (k + 1)))) by rw [HT.out, bys_append]; exact o)
      have HW2 := hid ((HW.out.alloc HW.out.size _).grown g (by have := HW.out.size; simp; omega) (fun k hk => (HO.out.lt k hk).1))
      clear o g HO HW HX hcx
      go_wp2_with fail
      go_roundw
      case rel => exact ⟨k + 1, a2, c2, by omega, by go_num, rfl, HO2, HW2⟩
      case measure => simp [intOf]; omega
    · have hlt' : ¬ (k : Int) < (n : Int) := by omega
      obtain rfl : n = k := by omega
      have HO1 := hid (show wr.ownsRow W.heap.size 5 1 (.slice a1 n c1) n (bys (lensP ss)) by have := HO.out; rw [List.take_of_length_le (by omega)] at this; exact this)
      have HL1 := hid (show bdZ (lensP ss) from HHB.out.sub (fun x hx => by unfold headP; exact List.mem_cons_of_mem _ hx))
      have HB := hid (HB0.out.trans (HW.out.mono HB0.out.size))
      have HSZ := hid (show w.heap.size < wr.heap.size by have := HS0.out; have := HW.out.size; omega)
      clear HO HW HX0 HB0
      go_wp2_with fail
      replace HX := hid (HX.out.below ((Still.drew wr).below _) (Nat.le_refl _))
      replace HO1 := hid (owns_below ((Still.drew wr).below _) (Nat.le_refl _) HO1.out)
      replace HB := hid (HB.out.trans ((Still.drew wr).below _))
      replace HSZ := hid (show w.heap.size < wr.drew.heap.size from HSZ.out)
      refine region_K 99 (fun W => BoxP W w.heap.size L a n c) (by kernel_rfl) ?_ (fun hHeld => ?_)
      · exact HX.out.box
      generalize wr.drew = v0 at *
      refine anyK_take2 (i := 0) (v := ?v1) rfl (by kernel_rfl) (by kernel_rfl) (by kernel_rfl) (by rfl) (fun _ _ _ h => h) (by rfl) hHeld ?hy1 (some 21) (by rfl) ?rest1
      case hy1 => (intro W hSw; obtain ⟨r0, r1⟩ := hSw; go_simp; (try with_reducible rfl))
      try simp only [Act.put]
      try simp only [List.setIfInBounds_toArray]
      try simp only [List.set_cons_succ, List.set_cons_zero]
      refine anyK_take2 (i := 1) (v := ?v2) rfl (by kernel_rfl) (by kernel_rfl) (by kernel_rfl) (by rfl) (fun _ _ _ h => h) (by rfl) hHeld ?hy2 (some 22) (by rfl) ?rest2
      case hy2 => (intro W hSw; obtain ⟨r0, r1⟩ := hSw; go_simp; (try with_reducible rfl))
      try simp only [Act.put]
      try simp only [List.setIfInBounds_toArray]
      try simp only [List.set_cons_succ, List.set_cons_zero]
      refine anyK_take2 (i := 2) (v := ?v3) rfl (by kernel_rfl) (by kernel_rfl) (by kernel_rfl) (by rfl) (fun _ _ _ h => h) (by rfl) hHeld ?hy3 (some 23) (by rfl) ?rest3
      case hy3 => (intro W hSw; obtain ⟨r0, r1⟩ := hSw; go_simp; (try with_reducible rfl))
      try simp only [Act.put]
      try simp only [List.setIfInBounds_toArray]
      try simp only [List.set_cons_succ, List.set_cons_zero]
      refine anyK_take2 (i := 4) (v := ?v4) rfl (by kernel_rfl) (by kernel_rfl) (by kernel_rfl) (by rfl) (fun _ _ _ h => h) (by rfl) hHeld ?hy4 (some 25) (by rfl) ?rest4
      case hy4 => (intro W hSw; obtain ⟨r0, r1⟩ := hSw; go_simp; (try with_reducible rfl))
      try simp only [Act.put]
      try simp only [List.setIfInBounds_toArray]
      try simp only [List.set_cons_succ, List.set_cons_zero]
      refine anyK_take2 (i := 5) (v := ?v5) rfl (by kernel_rfl) (by kernel_rfl) (by kernel_rfl) (by rfl) (fun _ _ _ h => h) (by rfl) hHeld ?hy5 (some 26) (by rfl) ?rest5
      case hy5 => (intro W hSw; obtain ⟨r0, r1⟩ := hSw; go_simp; (try with_reducible rfl))
      try simp only [Act.put]
      try simp only [List.setIfInBounds_toArray]
      try simp only [List.set_cons_succ, List.set_cons_zero]
      refine anyK_take2 (i := 6) (v := ?v6) rfl (by kernel_rfl) (by kernel_rfl) (by kernel_rfl) (by rfl) (fun _ _ _ h => h) (by rfl) hHeld ?hy6 (some 27) (by rfl) ?rest6
      case hy6 => (intro W hSw; obtain ⟨r0, r1⟩ := hSw; go_simp; (try with_reducible rfl))
      try simp only [Act.put]
      try simp only [List.setIfInBounds_toArray]
      try simp only [List.set_cons_succ, List.set_cons_zero]
      refine anyK_step (i := 3) (by kernel_rfl) rfl (fun KP hK => ?_)
      go_simp
      refine (impl_PutNum (n : Int) 1 v0 (by omega)).mono ?_
      rintro e v1 ⟨x1, rfl, o, b⟩
      rw [HP1.out] at o
      obtain ⟨ap, cp, rfl⟩ := own_sl o
      have HP := hid o
      replace HX := hid (HX.out.below b (Nat.le_refl _))
      replace HO1 := hid (owns_below b (Nat.le_refl _) HO1.out)
      replace HB := hid (HB.out.trans (b.mono HB.out.size))
      replace HSZ := hid (Nat.lt_of_lt_of_le HSZ.out b.size)
      clear o b
      go_wp2_with fail
      refine hK.out _ _ ?_ (fun hH2 => ?_)
      · exact HX.out.box
      clear hK KP hHeld
      have hHeld := hH2
      clear hH2
      try simp only [Act.put]
      try simp only [List.setIfInBounds_toArray]
      try simp only [List.set_cons_succ, List.set_cons_zero]
      refine anyK_step (i := 7) (by kernel_rfl) rfl (fun KP hK => ?_)
      go_simp
      refine (impl_joined c HX.out.reads hl (by omega) (by have := HTT.out; omega)).mono ?_
      rintro e v2 ⟨x2, rfl, o, b⟩
      obtain ⟨aj, cj, rfl⟩ := own_sl o
      have HJ := hid o
      replace HX := hid (HX.out.below b (Nat.le_refl _))
      replace HO1 := hid (owns_below b (Nat.le_refl _) HO1.out)
      replace HP := hid (owns_below b (Nat.le_refl _) HP.out)
      replace HB := hid (HB.out.trans (b.mono HB.out.size))
      replace HSZ := hid (Nat.lt_of_lt_of_le HSZ.out b.size)
      clear o b
      go_wp2_with fail
      refine hK.out _ _ ?_ (fun hH2 => ?_)
      · exact HX.out.box
      clear hK KP hHeld
      have hHeld := hH2
      clear hH2
      try simp only [Act.put]
      try simp only [List.setIfInBounds_toArray]
      try simp only [List.set_cons_succ, List.set_cons_zero]
      refine anyK_step (i := 8) (by kernel_rfl) rfl (fun KP hK => ?_)
      go_simp
      have RG := heap_alloc_new v2 (.cells #[.slice ap [(n : Int)].length cp, .slice a1 n c1, .slice aj (tot ss) cj] 22)
      have bA := Below.alloc1 v2 (.cells #[.slice ap [(n : Int)].length cp, .slice a1 n c1, .slice aj (tot ss) cj] 22)
      replace HX := hid (HX.out.below bA (Nat.le_refl _))
      have R3 := hid (reads_three RG ((row_of HP.out (bdZ.mem (fun x hx => by simp at hx; subst hx; omega)) (by simp)).below bA (Nat.le_refl _)) ((row_of HO1.out HL1.out (by omega)).below bA (Nat.le_refl _)) ((row_of HJ.out (flat_bd HSB.out) (by have := HTT.out; omega)).below bA (Nat.le_refl _)))
      replace HB := hid (HB.out.trans (bA.mono HB.out.size))
      replace HSZ := hid (Nat.lt_of_lt_of_le HSZ.out bA.size)
      clear RG bA HP HO1 HJ
      refine hK.out _ _ ?_ (fun hH2 => ?_)
      · exact HX.out.box
      clear hK KP hHeld
      have hHeld := hH2
      clear hH2
      try simp only [Act.put]
      try simp only [List.setIfInBounds_toArray]
      try simp only [List.set_cons_succ, List.set_cons_zero]
      generalize v2.alloc (.cells #[.slice ap [(n : Int)].length cp, .slice a1 n c1, .slice aj (tot ss) cj] 22) = v3 at *
      refine anyK_step (i := 9) (by kernel_rfl) rfl (fun KP hK => ?_)
      go_simp
      refine (impl_joined (m := 3) 3 R3.out rfl (by omega) (by show [(n : Int)].length + ((lensP ss).length + (ss.flatten.length + 0)) ≤ 2097152; rw [lensP_len, flat_tot]; have := HTT.out; simp; omega)).mono ?_
      rintro e v4 ⟨x4, rfl, o, b⟩
      have e4 : tot [[(n : Int)], lensP ss, ss.flatten] = (headP ss ++ ss.flatten).length := by
        rw [headP_len]
        show [(n : Int)].length + ((lensP ss).length + (ss.flatten.length + 0)) = _
        rw [lensP_len, flat_tot]; simp; omega
      have e5 : [[(n : Int)], lensP ss, ss.flatten].flatten = headP ss ++ ss.flatten := by simp [headP, hl]
      rw [e4, e5] at o
      obtain ⟨N, hN⟩ : ∃ N, (headP ss ++ ss.flatten).length = N := ⟨_, rfl⟩
      have HN := hid hN
      have hN240 : N ≤ 240 := by rw [headP_len] at hN; have := HTT.out; omega
      obtain ⟨M, hM⟩ : ∃ M, 240 - N = M := ⟨_, rfl⟩
      have hMi : (240 : Int) - (N : Int) = (M : Int) := by omega
      have hM240 : M ≤ 240 := by omega
      have HMM := hid hM
      rw [hN] at o
      obtain ⟨au, cu, rfl⟩ := own_sl o
      have HU := hid o
      replace HX := hid (HX.out.below b (Nat.le_refl _))
      replace HB := hid (HB.out.trans (b.mono HB.out.size))
      replace HSZ := hid (Nat.lt_of_lt_of_le HSZ.out b.size)
      clear o b hN e4 e5 R3
      go_wp2_with fail
      refine hK.out _ _ ?_ (fun hH2 => ?_)
      · exact HX.out.box
      clear hK KP hHeld
      have hHeld := hH2
      clear hH2
      try simp only [Act.put]
      try simp only [List.setIfInBounds_toArray]
      try simp only [List.set_cons_succ, List.set_cons_zero]
      refine anyK_step (i := 10) (by kernel_rfl) rfl (fun KP hK => ?_)
      go_simp
      refine hK.out _ _ ?_ (fun hH2 => ?_)
      · exact HX.out.box
      clear hK KP hHeld
      have hHeld := hH2
      clear hH2
      try simp only [Act.put]
      try simp only [List.setIfInBounds_toArray]
      try simp only [List.set_cons_succ, List.set_cons_zero]
      refine anyK_done (by kernel_rfl) ?_ _
      clear hHeld hM
      go_wp2_with (at_make; refine wpList_make_full _ rfl _ _ 22 rfl v4.heap.size 5 i0 (.int .u8 0) 1 Try.underlying22 hi hz0 hz1 _ _ _ _ M rfl rfl (by omega) (by omega) ?m2 ?m3 (Nat.le_refl _) ?_)
      case m2 => first | (rw [hz2]; omega) | omega
      case m3 => unfold maxLen; omega
      intro v5 hown hgrow
      rw [toList_madeCells_one] at hown
      have b5 := (Below.refl v4.heap.size v4).grown hgrow (Nat.le_refl _) (fun k h => by cases h)
      have HZR := hid (show v5.ownsRow v4.heap.size 5 1 (.slice (some ⟨v4.heap.size, 0, none⟩) M M) M (bys (List.replicate M 0)) by simpa [bys] using hown)
      replace HU := hid (owns_below b5 (Nat.le_refl _) HU.out)
      replace HB := hid (HB.out.trans (b5.mono HB.out.size))
      clear hown hgrow b5 HX HSZ hMi
      go_wp2_with fail
      have RG := heap_alloc_new v5 (.cells #[.slice au N cu, .slice (some ⟨v4.heap.size, 0, none⟩) M M] 22)
      have bA := Below.alloc1 v5 (.cells #[.slice au N cu, .slice (some ⟨v4.heap.size, 0, none⟩) M M] 22)
      have R2 := reads_two RG ((row_of HU.out (HHB.out.app (flat_bd HSB.out)) (by omega)).below bA (Nat.le_refl _)) ((row_of HZR.out (bdZ.rep M) (by omega)).below bA (Nat.le_refl _))
      have e6 : tot [headP ss ++ ss.flatten, List.replicate M 0] = 240 := by
        show (headP ss ++ ss.flatten).length + ((List.replicate M (0 : Int)).length + 0) = 240
        rw [HN.out]; simp; have := HMM.out; omega
      have e7 : [headP ss ++ ss.flatten, List.replicate M 0].flatten = bodyP ss := by
        unfold bodyP fillP; rw [HN.out, HMM.out]; simp
      refine (impl_joined (m := 2) 2 R2 rfl (by omega) (by rw [e6]; omega)).mono ?_
      rintro e v6 ⟨x6, rfl, o, b⟩
      rw [e6, e7] at o
      obtain ⟨g6, c6, e8, _, _⟩ := o.form (by omega)
      subst e8
      have HF := hid (HB.out.trans ((bA.trans (b.mono bA.size)).mono HB.out.size))
      have HOO := hid (owns_lower o (show w.heap.size ≤ (v5.alloc (.cells #[.slice au N cu, .slice (some ⟨v4.heap.size, 0, none⟩) M M] 22)).heap.size by have := HB.out.size; have := bA.size; omega))
      clear o b RG bA R2 e6 e7 HU HZR HB
      go_wp2_with fail
      go_ret
      exact ⟨g6, c6, rfl, HOO.out, HF.out⟩
end Go.Proofs.Ytdfieopdbpklnaa
