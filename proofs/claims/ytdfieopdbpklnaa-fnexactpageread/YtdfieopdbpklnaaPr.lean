/- The contract of the specification's PageBytes. Conditions: lists of at most 2^47. -/
import Derived.Test.YtdfieopdbpklnaaPq
import Derived.Test.YtdfieopdbpklnaaPut
import Derived.Deep.LoopGhost
namespace Go.Proofs.Ytdfieopdbpklnaa
open Go.RowKit
set_option maxRecDepth 100000

theorem wrap8 (z : Nat) (h : z ≤ 255) : IntKind.u8.wrap (z : Int) = (z : Int) := by simp [IntKind.wrap, IntKind.bits, IntKind.signed]; omega
theorem reads_cut {w : World} {g o n : Nat} {zs : List Int} (h : Reads w (some ⟨g, o, none⟩) n zs) (i m : Nat) (hi : i + m ≤ n) : Reads w (some ⟨g, o + i, none⟩) m ((zs.drop i).take m) := by
  have hl := h.len
  refine ⟨by simp; omega, ?_, fun j => ?_⟩
  · by_cases h0 : m = 0
    · exact .inl h0
    · rcases h.cells with h1 | ⟨b, off, e, hc⟩
      · omega
      · cases e
        refine .inr ⟨g, o + i, rfl, fun j hj => ?_⟩
        rw [show o + i + j = o + (i + j) by omega, hc (i + j) (by omega)]
        congr 2
        simp [List.getD, List.getElem?_drop, hj]
  · have := h.bd (i + j)
    by_cases hj : j < m
    · simpa [List.getD, List.getElem?_take, List.getElem?_drop, hj] using this
    · simp [List.getD, List.getElem?_take, hj]
theorem lit_row {w : World} (x : Int) : (w.alloc (.cells #[.int .u8 x] 5)).ownsRow w.heap.size 5 1 (.slice (some ⟨w.heap.size, 0, none⟩) 1 1) 1 (bys [x]) := by
  have := World.ownsRow_lit (base := w.heap.size) (e := 5) (size := 1) w #[.int .u8 x] 1 (Nat.le_refl _) (by unfold maxLen; omega) rfl
  simpa [bys] using this
theorem cut_len {zs : List Int} {i m : Nat} (h : i + m ≤ zs.length) : ((zs.drop i).take m).length = m := by simp; omega

set_option maxHeartbeats 6400000 in
theorem spec_PageBytes (L : Int) {a : Option Addr} {n : Nat} (c : Nat) {ss : List (List Int)} {w : World} (h : ReadsS w a ss) (hl : ss.length = n) :
    Calls Try.prog 36 #[.agg #[.int .i64 L, .slice a n c]] w fun e w' => ∃ v, e = .returned v ∧ w'.ownsRow w.heap.size 5 1 v (bytesP L ss).length (bys (bytesP L ss)) ∧ Below w.heap.size w w' := by
  obtain ⟨i0, hi, hz0, hz1, hz2⟩ := info_parts Try.info5
  have HX := hid (ArgP.new L n c h 26 w.heap.size rfl)
  have HB := hid (Below.alloc1 w (.cells #[.int .i64 L, .slice a n c] 26))
  have HU := hid (usedP_bd (L := L) (ss := ss))
  clear h
  go_enter Try.func36, Try.ntmps36
  go_wp2_with fail
  generalize w.alloc (.cells #[.int .i64 L, .slice a n c] 26) = W at *
  refine (spec_PageUsed L c HX.out.reads hl).mono ?_
  rintro e w1 ⟨rfl, b⟩
  replace HX := hid (HX.out.below b (Nat.le_refl _))
  replace HB := hid (HB.out.trans (b.mono HB.out.size))
  clear b
  rcases HU.out with ⟨e1, e2⟩ | ⟨e1, e2, e3⟩
  · rw [e2]
    have HE := hid (bytesP_no e1)
    clear e1 e2
    go_wp2_with fail
    go_ret
    exact ⟨_, rfl, by rw [HE.out]; exact World.ownsRow_nil _ _ _ _, HB.out⟩
  have HE := hid e1
  obtain ⟨u, hu⟩ : ∃ u, usedP L ss = u := ⟨_, rfl⟩
  rw [hu] at e2 e3 ⊢
  have qu : ¬ u < 0 := by omega
  clear e1 hu HU e2 e3
  have hn16 : n ≤ 16 := by have := (okP_of HE.out).n; omega
  have hL0 := (okP_of HE.out).l0
  have hL1 := (okP_of HE.out).l1
  have HZ := hid (okP_of HE.out).z
  have HTT := hid (okP_of HE.out).t
  have HBY := hid (bytesP_yes HE.out)
  have HBL := hid (bodyP_len HE.out)
  have HP4 := hid (putL4 L hL0 hL1)
  have hw8 := wrap8 n (by omega)
  obtain ⟨c0, c1⟩ := HX.out.box
  go_wp2_with fail
  have HO := hid (lit_row (w := w1) (n : Int))
  have HW := hid (Below.alloc1 w1 (.cells #[.int .u8 (n : Int)] 5))
  clear c0 c1 hw8
  go_loopw [3, 4] (fun s i wr => ∃ (k : Nat) (a1 : Option Addr) (c1 : Nat), k ≤ n ∧ i = .int .i64 k ∧ s = .slice a1 (1 + k) c1 ∧ Hid (wr.ownsRow w1.heap.size 5 1 (.slice a1 (1 + k) c1) (1 + k) (bys ((n : Int) :: lensP (ss.take k)))) ∧ Hid (Below w1.heap.size w1 wr)) (fun _ i _ => n - (intOf i).toNat)
  case atStart => exact ⟨0, _, _, Nat.zero_le _, rfl, rfl, hid (by simpa [lensP] using HO.out), HW⟩
  case round =>
    clear HO HW
    obtain ⟨k, a1, c1', hk, rfl, rfl, HO, HW⟩ := hrel
    have HX2 := hid (HX.out.below HW.out (Nat.le_refl _))
    obtain ⟨d0, d1⟩ := HX2.out.box
    by_cases hlt : k < n
    · have hlt' : (k : Int) < (n : Int) := by omega
      have hk0 : (0 : Int) ≤ (k : Int) := by omega
      rcases HX2.out.reads.cells with h0 | ⟨b, off, rfl, hc⟩
      · omega
      obtain ⟨v, hcx, ax, cx, rfl, hr0, _, _⟩ := hc k (by omega)
      have HT := hid (lensP_snoc ss k (by omega))
      have hz92 := HZ.out k
      obtain ⟨z, hz⟩ : ∃ z, (ss.getD k []).length = z := ⟨_, rfl⟩
      rw [hz] at hcx HT hz92
      have hw8 := wrap8 z (by omega)
      clear hc hr0 hz
      go_wp2_with (at_builtin; refine wpList_append_row rfl _ _ 22 rfl w1.heap.size 5 i0 (.int .u8 0) 1 1 Try.underlying22 hi hz0 hz1 hz2 rfl (by decide) _ _ _ rfl (HO.out.alloc _) (some ⟨wr.heap.size, 0, none⟩) 1 1 [.int .u8 (z : Int)] rfl ?b1 (.inr ⟨_, rfl, World.news_of_block (heap_alloc_new wr _)⟩) ?b5 ?b2 ?b3 ?b4 ?b6 ?_)
      case b1 => rfl
      case b5 => exact fun e => by cases e
      case b2 => intro u hu; simp at hu; subst hu; rfl
      case b3 => unfold maxLen; omega
      case b4 => omega
      case b6 => have := HW.out.size; simp; omega
      intro a2 c2 w2 o g
      have HO2 := hid (show w2.ownsRow w1.heap.size 5 1 (.slice a2 (1 + (k + 1)) c2) (1 + (k + 1)) (bys ((n : Int) :: lensP (ss.take (k + 1)))) by rw [HT.out, ← List.cons_append, bys_append, ← Nat.add_assoc]; exact o)
      have HW2 := hid ((HW.out.alloc HW.out.size _).grown g (by have := HW.out.size; simp; omega) (fun k hk => (HO.out.lt k hk).1))
      clear o g HO HW HX2 d0 d1 hcx
      go_wp2_with fail
      go_roundw
      case rel => exact ⟨k + 1, a2, c2, by omega, by go_num, by rw [← Nat.add_assoc], HO2, HW2⟩
      case measure => simp [intOf]; omega
    · have hlt' : ¬ (k : Int) < (n : Int) := by omega
      obtain rfl : n = k := by omega
      have HO1 := hid (show wr.ownsRow w1.heap.size 5 1 (.slice a1 (1 + n) c1') (1 + n) (bys (headP ss)) by have := HO.out; rw [List.take_of_length_le (by omega)] at this; unfold headP; rw [hl]; exact this)
      clear HO
      go_wp2_with fail
      clear d0 d1 HX2
      go_loopw [3, 5] (fun s i wr => ∃ (k N : Nat) (a2 : Option Addr) (c2 : Nat), k ≤ n ∧ i = .int .i64 k ∧ s = .slice a2 N c2 ∧ N ≤ 240 ∧ Hid (N = 1 + n + tot (ss.take k)) ∧ Hid (wr.ownsRow w1.heap.size 5 1 (.slice a2 N c2) N (bys (headP ss ++ (ss.take k).flatten))) ∧ Hid (Below w1.heap.size w1 wr)) (fun _ i _ => n - (intOf i).toNat)
      case atStart => exact ⟨0, 1 + n, a1, c1', Nat.zero_le _, rfl, rfl, by omega, hid (by simp [tot]), hid (by simpa using HO1.out), HW⟩
      case round =>
        clear HO1 HW
        obtain ⟨k, N, a2, c2, hk, rfl, rfl, hN, HN, HO, HW⟩ := hrel
        have HX2 := hid (HX.out.below HW.out (Nat.le_refl _))
        obtain ⟨d0, d1⟩ := HX2.out.box
        by_cases hlt2 : k < n
        · have hlt' : (k : Int) < (n : Int) := by omega
          have hk0 : (0 : Int) ≤ (k : Int) := by omega
          rcases HX2.out.reads.cells with h0 | ⟨b, off, rfl, hc⟩
          · omega
          obtain ⟨v, hcx, ax, cx, rfl, hr0, hnil, _⟩ := hc k (by omega)
          have HT := hid (flat_step ss k (by omega))
          have HS := hid (tot_step ss k (by omega))
          have HV := hid (tot_take ss (k + 1))
          have HRR := hid hr0
          have HNI := hid hnil
          generalize ss.getD k [] = zk at *
          obtain ⟨z, hz⟩ : ∃ z, zk.length = z := ⟨_, rfl⟩
          rw [hz] at hcx HS HRR
          have HZL := hid hz
          have hNz : N + z ≤ 240 := by have := HN.out; have := HS.out; have := HV.out; have := HTT.out; omega
          clear hc hr0 hz hnil
          go_wp2_with (at_builtin; refine wpList_append_row rfl _ _ 22 rfl w1.heap.size 5 i0 (.int .u8 0) 1 1 Try.underlying22 hi hz0 hz1 hz2 rfl (by decide) _ _ _ rfl HO.out ax z cx (bys zk) rfl ?b1 (HRR.out.news' HNI.out) ?b5 ?b2 ?b3 ?b4 ?b6 ?_)
          case b1 => rw [bys_length, HZL.out, Nat.mul_one]
          case b5 => exact HRR.out.nil0
          case b2 => exact bys_one _
          case b3 => unfold maxLen; omega
          case b4 => omega
          case b6 => exact HW.out.size
          intro a3 c3 w2 o g
          have HO2 := hid (show w2.ownsRow w1.heap.size 5 1 (.slice a3 (N + z) c3) (N + z) (bys (headP ss ++ (ss.take (k + 1)).flatten)) by rw [HT.out, ← List.append_assoc, bys_append]; exact o)
          have HW2 := hid (HW.out.grown g HW.out.size (fun k hk => (HO.out.lt k hk).1))
          have HN2 := hid (show N + z = 1 + n + tot (ss.take (k + 1)) by have := HN.out; have := HS.out; omega)
          clear o g HO HW HX2 d0 d1 hcx
          go_wp2_with fail
          go_roundw
          case rel => exact ⟨k + 1, N + z, a3, c3, by omega, by go_num, rfl, hNz, HN2, HO2, HW2⟩
          case measure => simp [intOf]; omega
        · have hlt' : ¬ (k : Int) < (n : Int) := by omega
          obtain rfl : n = k := by omega
          have HN1 := hid (show N = (headP ss ++ ss.flatten).length by rw [HN.out, List.take_of_length_le (by omega), headP_len, hl])
          have HO1 := hid (show wr.ownsRow w1.heap.size 5 1 (.slice a2 N c2) N (bys (headP ss ++ ss.flatten)) by have := HO.out; rw [List.take_of_length_le (by omega)] at this; exact this)
          clear HO HN
          go_wp2_with fail
          clear d0 d1 HX2
          go_loopg [3] (240 - N) (fun r s wr => ∃ (M : Nat) (a3 : Option Addr) (c3 : Nat), s = .slice a3 M c3 ∧ N ≤ M ∧ M ≤ 240 ∧ r = 240 - M ∧ Hid (wr.ownsRow w1.heap.size 5 1 (.slice a3 M c3) M (bys (headP ss ++ ss.flatten ++ List.replicate (M - N) 0))) ∧ Hid (Below w1.heap.size w1 wr))
          case atStart => exact ⟨N, a2, c2, rfl, Nat.le_refl _, hN, rfl, hid (by rw [Nat.sub_self]; simpa using HO1.out), HW⟩
          case round =>
            clear HO1 HW
            obtain ⟨M, a3, c3, rfl, hNM, hM, hr, HO, HW⟩ := hrel
            by_cases hlt3 : M < 240
            · have hlt' : (M : Int) < 240 := by omega
              go_wp2_with (at_builtin; refine wpList_append_row rfl _ _ 22 rfl w1.heap.size 5 i0 (.int .u8 0) 1 1 Try.underlying22 hi hz0 hz1 hz2 rfl (by decide) _ _ _ rfl (HO.out.alloc _) (some ⟨wr.heap.size, 0, none⟩) 1 1 [.int .u8 0] rfl ?b1 (.inr ⟨_, rfl, World.news_of_block (heap_alloc_new wr _)⟩) ?b5 ?b2 ?b3 ?b4 ?b6 ?_)
              case b1 => rfl
              case b5 => exact fun e => by cases e
              case b2 => intro u hu; simp at hu; subst hu; rfl
              case b3 => unfold maxLen; omega
              case b4 => omega
              case b6 => have := HW.out.size; simp; omega
              intro a4 c4 w2 o g
              have HO2 := hid (show w2.ownsRow w1.heap.size 5 1 (.slice a4 (M + 1) c4) (M + 1) (bys (headP ss ++ ss.flatten ++ List.replicate (M + 1 - N) 0)) by rw [show M + 1 - N = (M - N) + 1 by omega, List.replicate_succ']; simpa [bys, List.append_assoc] using o)
              have HW2 := hid ((HW.out.alloc HW.out.size _).grown g (by have := HW.out.size; simp; omega) (fun k hk => (HO.out.lt k hk).1))
              clear o g HO HW
              go_wp2_with fail
              go_roundg (240 - (M + 1))
              case measure => omega
              case rel => exact ⟨M + 1, a4, c4, rfl, by omega, by omega, rfl, HO2, HW2⟩
            · have hlt' : ¬ (M : Int) < 240 := by omega
              obtain rfl : M = 240 := by omega
              have HB1 := hid (show wr.ownsRow w1.heap.size 5 1 (.slice a3 240 c3) 240 (bys (bodyP ss)) by have := HO.out; unfold bodyP fillP; rw [← HN1.out]; exact this)
              obtain ⟨gb, cb, e0, hgb, hgb2⟩ := HB1.out.form (by omega)
              obtain ⟨rfl, _, rfl⟩ := Value.slice.inj e0
              have hcb := hid (show 240 ≤ c3 by rcases HB1.out.2 with ⟨e, _⟩ | ⟨g', cap, cur, e, _, _, h1, _⟩; cases e; (obtain ⟨_, _, rfl⟩ := Value.slice.inj e; exact h1))
              have RB := hid (show Reads wr (some ⟨gb, 0, none⟩) 240 (bodyP ss) by
                obtain ⟨x, y, e, r, _⟩ := Reads.own HB1.out (bodyP_bd HE.out HX.out.reads.bd)
                obtain ⟨rfl, _, _⟩ := Value.slice.inj e
                exact r)
              have hc240 : 240 ≤ c3 := hcb.out
              clear HO e0 hgb hgb2 HB1 hr
              generalize bodyP ss = BB at *
              generalize wr = V at *
              have HXV := hid (HX.out.below HW.out (Nat.le_refl _))
              have HBV := hid (HB.out.trans (HW.out.mono HB.out.size))
              clear HX HB HW
              go_wp2_with fail
              go_loopw [6, 7] (fun s i wr => ∃ (k : Nat) (a5 : Option Addr) (c5 : Nat), k ≤ 4 ∧ i = .int .i64 ((60 * k : Nat) : Int) ∧ s = .slice a5 (64 * k) c5 ∧ Hid (wr.ownsRow V.heap.size 5 1 (.slice a5 (64 * k) c5) (64 * k) (bys (secsP L BB k))) ∧ Hid (Below V.heap.size V wr)) (fun _ i _ => 240 - (intOf i).toNat)
              case atStart => exact ⟨0, none, 0, by omega, rfl, rfl, hid (World.ownsRow_nil _ _ _ _), hid (Below.refl _ _)⟩
              case round =>
                obtain ⟨k, a5, c5, hk, rfl, rfl, HO, HW⟩ := hrel
                by_cases hlt4 : k < 4
                · obtain ⟨q, hq⟩ : ∃ q, 60 * k = q := ⟨_, rfl⟩
                  have HQ := hid hq
                  obtain ⟨N5, hN5⟩ : ∃ N5, 64 * k = N5 := ⟨_, rfl⟩
                  have HN5 := hid hN5
                  have hq240 : q + 60 ≤ 240 := by omega
                  have hN192 : N5 ≤ 192 := by omega
                  rw [hN5] at HO ⊢
                  rw [hq]
                  clear hq hN5
                  have l1 : (q : Int) < 240 := by omega
                  have l2 : (0 : Int) ≤ (q : Int) := by omega
                  have l3 : (q : Int) + 60 ≤ (c3 : Int) := by omega
                  have l4 : ¬ c3 = q := by omega
                  have l5 : q ≤ c3 := by omega
                  have l6 : q + 60 ≤ c3 := by omega
                  have HX5 := hid (HXV.out.below HW.out (Nat.le_refl _))
                  obtain ⟨d0, d1⟩ := HX5.out.box
                  go_wp2_with fail
                  refine (spec_PutNum L 4 wr (by omega)).mono ?_
                  rintro e w5 ⟨v5, rfl, o5, b5⟩
                  rw [HP4.out.1] at o5
                  obtain ⟨g5, c6, e5, _, _⟩ := o5.form (by omega)
                  subst e5
                  have R5 := hid (show Reads w5 (some ⟨g5, 0, none⟩) 4 (putL L 4) by
                    obtain ⟨x, y, e, r, _⟩ := Reads.own o5 (putL_bd L 4)
                    obtain ⟨rfl, _, _⟩ := Value.slice.inj e
                    exact r)
                  replace HO := hid (owns_below b5 (Nat.le_refl _) HO.out)
                  replace HW := hid (HW.out.trans (b5.mono HW.out.size))
                  clear d0 d1 HX5 b5 o5
                  go_wp2_with (at_builtin; refine wpList_append_row rfl _ _ 22 rfl V.heap.size 5 i0 (.int .u8 0) 1 1 Try.underlying22 hi hz0 hz1 hz2 rfl (by decide) _ _ _ rfl HO.out (some ⟨g5, 0, none⟩) 4 c6 (bys (putL L 4)) rfl ?b1 (R5.out.news' (c := c6) (fun e => by cases e)) ?b5 ?b2 ?b3 ?b4 ?b6 ?_)
                  case b1 => rw [bys_length, HP4.out.1]
                  case b5 => exact fun e => by cases e
                  case b2 => exact bys_one _
                  case b3 => unfold maxLen; omega
                  case b4 => omega
                  case b6 => exact HW.out.size
                  intro a6 c7 w6 o6 g6
                  replace HW := hid (HW.out.grown g6 HW.out.size (fun k hk => (HO.out.lt k hk).1))
                  replace HO := hid o6
                  have R6 := hid (reads_cut (RB.out.below HW.out (Nat.le_refl _)) q 60 hq240)
                  have hcl := hid (show ((BB.drop q).take 60).length = 60 from cut_len (by rw [HBL.out]; exact hq240))
                  clear o6 g6 R5
                  simp only [Nat.zero_add] at R6
                  go_wp2_with (at_builtin; refine wpList_append_row rfl _ _ 22 rfl V.heap.size 5 i0 (.int .u8 0) 1 1 Try.underlying22 hi hz0 hz1 hz2 rfl (by decide) _ _ _ rfl HO.out (some ⟨gb, q, none⟩) (q + 60 - q) (c3 - q) (bys ((BB.drop q).take 60)) rfl ?d1 (R6.out.news' (c := c3 - q) (fun e => by cases e)) ?d5 ?d2 ?d3 ?d4 ?d6 ?_)
                  case d1 => rw [bys_length, hcl.out]; omega
                  case d5 => exact fun e => by cases e
                  case d2 => exact bys_one _
                  case d3 => unfold maxLen; omega
                  case d4 => omega
                  case d6 => exact HW.out.size
                  intro a8 c8 w8 o8 g8
                  replace HW := hid (HW.out.grown g8 HW.out.size (fun k hk => (HO.out.lt k hk).1))
                  have HO8 := hid (show w8.ownsRow V.heap.size 5 1 (.slice a8 (64 * (k + 1)) c8) (64 * (k + 1)) (bys (secsP L BB (k + 1))) by
                    rw [show 64 * (k + 1) = N5 + 4 + 60 by have := HN5.out; omega]
                    simp only [secsP, bys_append, HQ.out]
                    exact o8)
                  clear o8 g8 HO R6
                  go_wp2_with fail
                  go_roundw
                  case rel => exact ⟨k + 1, a8, c8, by omega, by have := HQ.out; go_num, by have := HN5.out; rw [show 64 * (k + 1) = N5 + 4 + 60 by omega], HO8, HW⟩
                  case measure => have := HQ.out; simp [intOf]; omega
                · obtain rfl : k = 4 := by omega
                  have HO4 := hid (show wr.ownsRow w.heap.size 5 1 (.slice a5 256 c5) 256 (bys (secsP L BB 4)) from owns_lower HO.out (by have := HBV.out.size; omega))
                  have HF := hid (HBV.out.trans (HW.out.mono HBV.out.size))
                  clear HO HW
                  go_wp2_with fail
                  go_ret
                  refine ⟨_, rfl, ?_, HF.out⟩
                  rw [HBY.out, secsP_len HP4.out.1 HBL.out 4 (by omega)]
                  exact HO4.out
end Go.Proofs.Ytdfieopdbpklnaa
