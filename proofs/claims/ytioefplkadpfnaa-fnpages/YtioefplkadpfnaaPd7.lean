/- The contract of the draw of a page. For codes of at most 2^21 bytes. -/
import Derived.Test.YtioefplkadpfnaaPd6
namespace Go.Proofs.Ytioefplkadpfnaa
open Go.RowKit
set_option maxRecDepth 100000

set_option maxHeartbeats 12800000 in
theorem l7page {w : World} {g : Nat} {ad : Option Addr} {nn cap : Nat} {zs : List Int} (cu : Cur w g ad nn cap zs) (hn : nn ≤ 2097152) :
    Calls Try.prog 43 #[.pointer (some ⟨g, 0, none⟩)] w fun e w' => AnsPg w g ad nn cap zs e w' := by
  obtain ⟨k0', ki, kz0, kz1, kz2⟩ := info_parts Try.info5
  have gl := cu.lt
  have bA := Below.alloc1 w (.cells #[.int .i64 0, .slice none 0 0] 26)
  have HC := hid (cu.below bA (Nat.le_refl _))
  have HG := hid (gw_alloc (grown_refl w (some g)) (.cells #[.int .i64 0, .slice none 0 0] 26))
  have R0 := hid (heap_alloc_new w (.cells #[.int .i64 0, .slice none 0 0] 26))
  have Z0 := hid (alloc_size w (.cells #[.int .i64 0, .slice none 0 0] 26))
  clear bA cu
  go_enter Try.func43, Try.ntmps43
  go_wp2_with fail
  generalize w.alloc (.cells #[.int .i64 0, .slice none 0 0] 26) = W at *
  refine (l1Below HC.out hn 50 (by omega) (by omega)).mono ?_
  rintro e w1 ⟨L, rfl, L0, L1, c', gg⟩
  replace R0 := hid (tup_cur R0.out gl gg)
  replace HG := hid (grown_trans HG.out gg)
  have Z1 := hid (show w.heap.size + 1 ≤ w1.heap.size by have := Z0.out; have := gg.size; omega)
  replace HC := hid c'
  clear c' gg Z0
  go_wp2_with fail
  have HP := hid (show PgS w (w1.alloc (.cells #[.int .i64 L, .slice none 0 0] 26)) w1.heap.size g ad nn cap zs L none 0 0 [] from by
    have bA := Below.alloc1 w1 (.cells #[.int .i64 L, .slice none 0 0] 26)
    exact ⟨heap_alloc_new w1 _, OwnP.nil _ _ _, rfl, SmP.nil, (bA.block _ (by have := Z1.out; omega)).trans R0.out, HC.out.below bA (Nat.le_refl _), gw_alloc HG.out _, by rw [alloc_size]; omega, by have := Z1.out; omega, gl⟩)
  generalize w1.alloc (.cells #[.int .i64 L, .slice none 0 0] 26) = W1 at *
  generalize w1.heap.size = pb at *
  clear R0 HG HC Z1
  refine (l1Below HP.out.cur hn 9 (by omega) (by omega)).mono ?_
  rintro e w2 ⟨x, rfl, x0, x1, c', gg⟩
  replace HP := hid (HP.out.go c' gg)
  clear c' gg
  go_wp2_with fail
  go_loopw [4] (fun i wr => ∃ (x : Int) (L : Int) (a : Option Addr) (k c : Nat) (ss : List (List Int)), i = .int .i64 x ∧ x < 9 ∧ 0 ≤ x ∧ Hid (PgS w wr pb g ad nn cap zs L a k c ss)) (fun i _ => (intOf i).toNat)
  case atStart => exact ⟨x, L, none, 0, 0, [], rfl, x1, x0, HP⟩
  case round =>
    clear HP x0 x1
    obtain ⟨x, L, a, k, c, ss, rfl, x1, x0, HP⟩ := hrel
    by_cases hx : 0 < x
    · go_wp2_with fail
      refine (l6tuple HP.out.cur hn).mono ?_
      rintro e w3 ⟨A, B, K, N, f, a1, c1, D1, LL, M, h', a2, c2, D2, rfl, o1, b1, l1, hN, hf, o2, b2, l2, hM, hh, c', gg⟩
      have HZ3 := hid (show w.heap.size ≤ w3.heap.size by have := HP.out.sz; have := HP.out.lo; have := gg.size; omega)
      replace HP := hid (HP.out.go c' gg)
      have O1 := hid o1
      have O2 := hid o2
      clear c' gg o1 o2
      go_wp2_with fail
      refine (spec_TupleBytes A B K N f c1 LL M h' c2 (reads_of O1.out b1).1 (reads_of O2.out b2).1 (reads_of O1.out b1).2 (reads_of O2.out b2).2 (by omega) (by omega) hN hM hf hh).mono ?_
      rintro e w4 ⟨v, rfl, o, b⟩
      have HDB := hid (show bdZ _ from bytesT_bd (A := A) (B := B) (K := K) (N := N) (f := f) (L := LL) (M := M) (h := h') b1 b2 rfl rfl)
      have hDL := bytesT_length (A := A) (B := B) (K := K) (N := N) (f := f) (zs := D1) (L := LL) (M := M) (h := h') (ys := D2) rfl rfl
      replace HP := hid (HP.out.below b)
      obtain ⟨D, hD⟩ : ∃ D, bytesT A B K N f D1.length D1 LL M h' D2.length D2 = D := ⟨_, rfl⟩
      rw [hD] at o HDB hDL
      obtain ⟨nD, hnD⟩ : ∃ nD, D.length = nD := ⟨_, rfl⟩
      rw [hnD] at o hDL
      obtain ⟨aD, cD, rfl⟩ := own_slice o
      have HDR := hid (owns_lower o HZ3.out)
      clear o b hD O1 O2 b1 b2 l1 l2 hN hM hf hh HZ3
      go_wp2_with fail
      refine (l1Once HP.out.cur hn 4 (by omega) (by omega)).mono ?_
      rintro e w5 ⟨b4, rfl, c', gg⟩
      replace HDR := hid (own_cur HDR.out HP.out.cur gg)
      replace HP := hid (HP.out.go c' gg)
      clear c' gg
      go_upto_if 21 with fail
      go_cut [5] (fun s5 wx => ∃ (aD : Option Addr) (nD cD : Nat) (D : List Int), s5 = .slice aD nD cD ∧ nD ≤ 1001 ∧ Hid (D.length = nD) ∧ Hid (bdZ D) ∧ Hid (wx.ownsRow w.heap.size 5 1 (.slice aD nD cD) nD (bys D)) ∧ Hid (PgS w wx pb g ad nn cap zs L a k c ss))
      case first =>
        cases b4
        · go_wp2_with fail
          go_meet
          case rel => exact ⟨aD, nD, cD, D, rfl, by omega, hid hnD, HDB, HDR, HP⟩
        · go_wp2_with fail
          have bA := Below.alloc1 w5 (.cells #[.int .u8 1] 5)
          have HLT := hid (lit_row (w := w5) 1)
          have HZ5 := hid (show w.heap.size ≤ w5.heap.size by have := HP.out.sz; have := HP.out.lo; omega)
          have HC5 := hid (HP.out.cur.below bA (Nat.le_refl _))
          have G5 := hid (gw_alloc (grown_refl w5 (some g)) (.cells #[.int .u8 1] 5))
          have Z5 := hid (alloc_size w5 (.cells #[.int .u8 1] 5))
          clear bA HDR HDB hnD hDL
          generalize w5.alloc (.cells #[.int .u8 1] 5) = W5 at *
          refine (l1some2 HC5.out hn 30 (by omega) (by omega)).mono ?_
          rintro e w6 ⟨v, M2, rfl, o, hb, hl, hnl, c', gg⟩
          replace HLT := hid (own_cur HLT.out HC5.out gg)
          replace HC5 := hid c'
          replace G5 := hid (grown_trans G5.out gg)
          have Z6 := hid (show w5.heap.size ≤ w6.heap.size by have := Z5.out; have := gg.size; omega)
          obtain ⟨m6, hm6⟩ : ∃ m6, M2.length = m6 := ⟨_, rfl⟩
          rw [hm6] at o hl
          obtain ⟨a6, c6, rfl⟩ := own_slice o
          have RM := hid (reads_of o hb)
          clear c' gg o hnl Z5
          go_wp2_with (at_builtin; refine wpList_append_row rfl _ _ 22 rfl w5.heap.size 5 k0' (.int .u8 0) 1 1 Try.underlying22 ki kz0 kz1 kz2 rfl (by decide) _ _ _ rfl HLT.out a6 m6 c6 (bys M2) rfl ?d1 (RM.out.1.news' RM.out.2) ?d5 ?d2 ?d3 ?d4 ?d6 ?_)
          case d1 => rw [bys_length, hm6, Nat.mul_one]
          case d5 => exact RM.out.1.nil0
          case d2 => exact bys_one _
          case d3 => unfold maxLen; omega
          case d4 => omega
          case d6 => exact Z6.out
          intro a7 c7 w7 o7 g7
          have C7 := HC5.out.other g7 (fun q hq => by cases hq; show g < w5.heap.size; have := HP.out.gl; have := HP.out.lo; have := HP.out.sz; omega)
          have G7 := grown_new G5.out g7 (fun r e => by cases e; exact Nat.le_refl _)
          have HP7 := hid (HP.out.go C7 G7)
          have HDR := hid (show w7.ownsRow w.heap.size 5 1 (.slice a7 (1 + m6) c7) (1 + m6) (bys (1 :: M2)) from owns_lower o7 HZ5.out)
          have HDB := hid (show bdZ (1 :: M2) from fun i => by
            match i with
            | 0 => simp
            | i + 1 => exact hb i)
          clear o7 g7 C7 G7 HLT HC5 G5 RM hb
          go_wp2_with fail
          go_meet
          case rel => exact ⟨a7, 1 + m6, c7, 1 :: M2, rfl, by omega, hid (by simp [hm6]; omega), HDB, HDR, HP7⟩
      case rest =>
        clear HP HDR HDB hnD hDL
        obtain ⟨aD, nD, cD, D, rfl, hnD, HDL, HDB, HDR, HP⟩ := hcut
        go_upto_region 8 with fail
        go_cut [6, 7] (fun s6 s7 wx => ∃ (gq : Nat) (RL : Int) (aq : Option Addr) (m cq : Nat) (RS : List (List Int)) (okb : Bool), s6 = .pointer (some ⟨gq, 0, none⟩) ∧ s7 = .bool okb ∧ Hid (wx.heap[gq]? = some (.cells #[.int .i64 RL, .slice aq m cq] 26 (0, 0))) ∧ Hid (OwnP wx w.heap.size wx.heap.size (.slice aq m cq) RS) ∧ Hid (RS.length = m) ∧ Hid (SmP RS) ∧ Hid (pb < gq) ∧ Hid (PgS w wx pb g ad nn cap zs L a k c ss))
        case first =>
          replace HP := hid (HP.out.below ((Still.drew wc).below _))
          replace HDR := hid (owns_below ((Still.drew wc).below wc.heap.size) (Nat.le_refl _) HDR.out)
          refine region_K 99 (fun W => BoxP W pb L a k c) (by kernel_rfl) ?_ (fun hHeld => ?_)
          · exact HP.out.box
          generalize wc.drew = v0 at *
          refine anyK_take2 (i := 0) (v := ?v1) rfl (by kernel_rfl) (by kernel_rfl) (by kernel_rfl) (by rfl) (fun _ _ _ h => h) (by rfl) hHeld ?hy1 (some 27) (by rfl) ?rest1
          case hy1 => (intro W hSw; obtain ⟨r0, r1⟩ := hSw; go_simp; (try with_reducible rfl))
          try simp only [Act.put]
          try simp only [List.setIfInBounds_toArray]
          try simp only [List.set_cons_succ, List.set_cons_zero]
          refine anyK_take2 (i := 1) (v := ?v2) rfl (by kernel_rfl) (by kernel_rfl) (by kernel_rfl) (by rfl) (fun _ _ _ h => h) (by rfl) hHeld ?hy2 (some 28) (by rfl) ?rest2
          case hy2 => (intro W hSw; obtain ⟨r0, r1⟩ := hSw; go_simp; (try with_reducible rfl))
          try simp only [Act.put]
          try simp only [List.setIfInBounds_toArray]
          try simp only [List.set_cons_succ, List.set_cons_zero]
          refine anyK_take2 (i := 2) (v := ?v3) rfl (by kernel_rfl) (by kernel_rfl) (by kernel_rfl) (by rfl) (fun _ _ _ h => h) (by rfl) hHeld ?hy3 (some 29) (by rfl) ?rest3
          case hy3 => (intro W hSw; obtain ⟨r0, r1⟩ := hSw; go_simp; (try with_reducible rfl))
          try simp only [Act.put]
          try simp only [List.setIfInBounds_toArray]
          try simp only [List.set_cons_succ, List.set_cons_zero]
          refine anyK_take2 (i := 3) (v := ?v4) rfl (by kernel_rfl) (by kernel_rfl) (by kernel_rfl) (by rfl) (fun _ _ _ h => h) (by rfl) hHeld ?hy4 (some 30) (by rfl) ?rest4
          case hy4 => (intro W hSw; obtain ⟨r0, r1⟩ := hSw; go_simp; (try with_reducible rfl))
          try simp only [Act.put]
          try simp only [List.setIfInBounds_toArray]
          try simp only [List.set_cons_succ, List.set_cons_zero]
          refine anyK_take2 (i := 5) (v := ?v5) rfl (by kernel_rfl) (by kernel_rfl) (by kernel_rfl) (by rfl) (fun _ _ _ h => h) (by rfl) hHeld ?hy5 (some 32) (by rfl) ?rest5
          case hy5 => (intro W hSw; obtain ⟨r0, r1⟩ := hSw; go_simp; (try with_reducible rfl))
          try simp only [Act.put]
          try simp only [List.setIfInBounds_toArray]
          try simp only [List.set_cons_succ, List.set_cons_zero]
          refine anyK_take2 (i := 6) (v := ?v6) rfl (by kernel_rfl) (by kernel_rfl) (by kernel_rfl) (by rfl) (fun _ _ _ h => h) (by rfl) hHeld ?hy6 (some 33) (by rfl) ?rest6
          case hy6 => (intro W hSw; obtain ⟨r0, r1⟩ := hSw; go_simp; (try with_reducible rfl))
          try simp only [Act.put]
          try simp only [List.setIfInBounds_toArray]
          try simp only [List.set_cons_succ, List.set_cons_zero]
          refine anyK_two (i := 4) (j := 13) (by kernel_rfl) rfl rfl (fun KP hK => ?_) (fun KP hK => ?_)
          · go_simp
            refine (spec_PagePlace L c nD HP.out.own.rd HP.out.len (by have := HP.out.sm.n; have := HP.out.len; omega)).mono ?_
            rintro e v1 ⟨rfl, b⟩
            replace HDR := hid (owns_below b (Nat.le_refl _) HDR.out)
            replace HP := hid (HP.out.below b)
            clear b
            go_wp2_with fail
            refine hK.out _ _ ?_ (fun hH2 => ?_)
            · exact HP.out.box
            clear hK KP hHeld
            have hHeld := hH2
            clear hH2
            try simp only [Act.put]
            try simp only [List.setIfInBounds_toArray]
            try simp only [List.set_cons_succ, List.set_cons_zero]
            refine anyK_two (i := 7) (j := 13) (by kernel_rfl) rfl rfl (fun KP hK => ?_) (fun KP hK => ?_)
            · go_simp
              refine (l1Below HP.out.cur hn 50 (by omega) (by omega)).mono ?_
              rintro e v2 ⟨x, rfl, x0, x1, c', gg⟩
              replace HDR := hid (own_cur HDR.out HP.out.cur gg)
              replace HP := hid (HP.out.go c' gg)
              have lw : IntKind.i64.wrap (1 + x) = 1 + x := by simp [IntKind.wrap, IntKind.bits, IntKind.signed]; omega
              clear c' gg
              go_wp2_with fail
              refine hK.out _ _ ?_ (fun hH2 => ?_)
              · exact HP.out.box
              clear hK KP hHeld
              have hHeld := hH2
              clear hH2
              try simp only [Act.put]
              try simp only [List.setIfInBounds_toArray]
              try simp only [List.set_cons_succ, List.set_cons_zero]
              refine anyK_take2 (i := 8) (v := ?v7) rfl (by kernel_rfl) (by kernel_rfl) (by kernel_rfl) (by rfl) (fun _ _ _ h => h) (by rfl) hHeld ?hy7 (some 35) (by rfl) ?rest7
              case hy7 => (intro W hSw; obtain ⟨r0, r1⟩ := hSw; go_simp; (try with_reducible rfl))
              try simp only [Act.put]
              try simp only [List.setIfInBounds_toArray]
              try simp only [List.set_cons_succ, List.set_cons_zero]
              refine anyK_two (i := 9) (j := 13) (by kernel_rfl) rfl rfl (fun KP hK => ?_) (fun KP hK => ?_)
              · obtain ⟨RL, RS, hR⟩ : ∃ (RL : Int) (RS : List (List Int)), putP L ss (placeP L ss nD) D (1 + x) = (RL, RS) := ⟨_, _, rfl⟩
                obtain ⟨m, hm⟩ : ∃ m, RS.length = m := ⟨_, rfl⟩
                have HSM := hid (put_small hR)
                have HLM := hid hm
                go_simp
                refine (spec_PagePut L c (placeP L ss nD) cD (1 + x) HP.out.own.rd HP.out.len (reads_of HDR.out HDB.out).1 (reads_of HDR.out HDB.out).2 hR rfl hm).mono ?_
                rintro e v3 ⟨aq, cq, rfl, oq, b⟩
                replace HDR := hid (owns_below b (Nat.le_refl _) HDR.out)
                have HQ := hid (show OwnP v3 w.heap.size v3.heap.size _ RS from oq.mono (by have := HP.out.sz; have := HP.out.lo; omega) (Nat.le_refl _))
                replace HP := hid (HP.out.below b)
                clear b oq hR hm
                go_wp2_with fail
                refine hK.out _ _ ?_ (fun hH2 => ?_)
                · exact HP.out.box
                clear hK KP hHeld
                have hHeld := hH2
                clear hH2
                try simp only [Act.put]
                try simp only [List.setIfInBounds_toArray]
                try simp only [List.set_cons_succ, List.set_cons_zero]
                refine anyK_take2 (i := 10) (v := ?v8) rfl (by kernel_rfl) (by kernel_rfl) (by kernel_rfl) (by rfl) (fun _ _ _ h => h) (by rfl) hHeld ?hy8 (some 26) (by rfl) ?rest8
                case hy8 => (intro W hSw; obtain ⟨r0, r1⟩ := hSw; go_simp; (try with_reducible rfl))
                try simp only [Act.put]
                try simp only [List.setIfInBounds_toArray]
                try simp only [List.set_cons_succ, List.set_cons_zero]
                refine anyK_take2 (i := 11) (v := ?v9) rfl (by kernel_rfl) (by kernel_rfl) (by kernel_rfl) (by rfl) (fun _ _ _ h => h) (by rfl) hHeld ?hy9 (some 37) (by rfl) ?rest9
                case hy9 => (intro W hSw; obtain ⟨r0, r1⟩ := hSw; go_simp; (try with_reducible rfl))
                try simp only [Act.put]
                try simp only [List.setIfInBounds_toArray]
                try simp only [List.set_cons_succ, List.set_cons_zero]
                refine anyK_take2 (i := 12) (v := ?v10) rfl (by kernel_rfl) (by kernel_rfl) (by kernel_rfl) (by rfl) (fun _ _ _ h => h) (by rfl) hHeld ?hy10 (some 38) (by rfl) ?rest10
                case hy10 => (intro W hSw; obtain ⟨r0, r1⟩ := hSw; go_simp; (try with_reducible rfl))
                try simp only [Act.put]
                try simp only [List.setIfInBounds_toArray]
                try simp only [List.set_cons_succ, List.set_cons_zero]
                refine anyK_step (i := 13) (by kernel_rfl) rfl (fun KP hK => ?_)
                go_simp
                have b := Below.alloc1 v3 (.cells #[.int .i64 0, .slice none 0 0] 26)
                have HT := hid (heap_alloc_new v3 (.cells #[.int .i64 0, .slice none 0 0] 26))
                have HGQ := hid (show pb < v3.heap.size from HP.out.sz)
                replace HDR := hid (owns_below b (Nat.le_refl _) HDR.out)
                replace HQ := hid ((HQ.out.below b (Nat.le_refl _)).mono (Nat.le_refl _) b.size)
                replace HP := hid (HP.out.below b)
                clear b
                generalize v3.alloc (.cells #[.int .i64 0, .slice none 0 0] 26) = v3a at *
                generalize v3.heap.size = gq at *
                refine hK.out _ _ ?_ (fun hH2 => ?_)
                · exact HP.out.box
                clear hK KP hHeld
                have hHeld := hH2
                clear hH2
                try simp only [Act.put]
                try simp only [List.setIfInBounds_toArray]
                try simp only [List.set_cons_succ, List.set_cons_zero]
                refine anyK_step (i := 14) (by kernel_rfl) rfl (fun KP hK => ?_)
                rw [if_pos (by rfl)]
                refine wp_store_row 26 (.tmp 6) (.tmp 37) rfl gq #[.int .i64 RL, .slice aq m cq] rfl rfl 26 _ HT.out size_pg rfl (by simp [Value.oneCell']) ?_
                have G := row_grown7 HT.out #[.int .i64 RL, .slice aq m cq]
                have HT' := hid (setRow_heap _ gq _ #[.int .i64 RL, .slice aq m cq] _ _ HT.out)
                have HQ' := hid ((HQ.out.beside HT.out (by decide) (by decide) G).mono (Nat.le_refl _) G.size)
                replace HP := hid (HP.out.beside HT.out (by decide) (by decide) G HGQ.out)
                clear G
                refine hK.out _ _ ?_ (fun hH2 => ?_)
                · exact HP.out.box
                clear hK KP hHeld
                have hHeld := hH2
                clear hH2
                try simp only [Act.put]
                try simp only [List.setIfInBounds_toArray]
                try simp only [List.set_cons_succ, List.set_cons_zero]
                refine anyK_take2 (i := 15) (v := ?v11) rfl (by kernel_rfl) (by kernel_rfl) (by kernel_rfl) (by rfl) (fun _ _ _ h => h) (by rfl) hHeld ?hy11 (some 7) (by rfl) ?rest11
                case hy11 => (intro W hSw; obtain ⟨r0, r1⟩ := hSw; go_simp; (try with_reducible rfl))
                try simp only [Act.put]
                try simp only [List.setIfInBounds_toArray]
                try simp only [List.set_cons_succ, List.set_cons_zero]
                refine anyK_done (by kernel_rfl) ?_ _
                go_wp2_with fail
                go_meet
                case rel => exact ⟨gq, RL, aq, m, cq, RS, _, rfl, rfl, HT', HQ', HLM, HSM, HGQ, HP⟩
              · go_simp
                have b := Below.alloc1 v2 (.cells #[.int .i64 0, .slice none 0 0] 26)
                have HT := hid (heap_alloc_new v2 (.cells #[.int .i64 0, .slice none 0 0] 26))
                have HGQ := hid (show pb < v2.heap.size from HP.out.sz)
                replace HDR := hid (owns_below b (Nat.le_refl _) HDR.out)
                replace HP := hid (HP.out.below b)
                clear b
                generalize v2.alloc (.cells #[.int .i64 0, .slice none 0 0] 26) = v2a at *
                generalize v2.heap.size = gq at *
                refine hK.out _ _ ?_ (fun hH2 => ?_)
                · exact HP.out.box
                clear hK KP hHeld
                have hHeld := hH2
                clear hH2
                try simp only [Act.put]
                try simp only [List.setIfInBounds_toArray]
                try simp only [List.set_cons_succ, List.set_cons_zero]
                refine anyK_step (i := 9) (by kernel_rfl) rfl (fun KP hK => ?_)
                obtain ⟨RL, RS, hR⟩ : ∃ (RL : Int) (RS : List (List Int)), putP L ss (placeP L ss nD) D (1 + x) = (RL, RS) := ⟨_, _, rfl⟩
                obtain ⟨m, hm⟩ : ∃ m, RS.length = m := ⟨_, rfl⟩
                have HSM := hid (put_small hR)
                have HLM := hid hm
                go_simp
                refine (spec_PagePut L c (placeP L ss nD) cD (1 + x) HP.out.own.rd HP.out.len (reads_of HDR.out HDB.out).1 (reads_of HDR.out HDB.out).2 hR rfl hm).mono ?_
                rintro e v3 ⟨aq, cq, rfl, oq, b⟩
                replace HDR := hid (owns_below b (Nat.le_refl _) HDR.out)
                replace HT := hid ((b.block gq (Array.getElem?_eq_some_iff.1 HT.out).1).trans HT.out)
                have HQ := hid (show OwnP v3 w.heap.size v3.heap.size _ RS from oq.mono (by have := HP.out.sz; have := HP.out.lo; omega) (Nat.le_refl _))
                replace HP := hid (HP.out.below b)
                clear b oq hR hm
                go_wp2_with fail
                refine hK.out _ _ ?_ (fun hH2 => ?_)
                · exact HP.out.box
                clear hK KP hHeld
                have hHeld := hH2
                clear hH2
                try simp only [Act.put]
                try simp only [List.setIfInBounds_toArray]
                try simp only [List.set_cons_succ, List.set_cons_zero]
                refine anyK_take2 (i := 10) (v := ?v12) rfl (by kernel_rfl) (by kernel_rfl) (by kernel_rfl) (by rfl) (fun _ _ _ h => h) (by rfl) hHeld ?hy12 (some 26) (by rfl) ?rest12
                case hy12 => (intro W hSw; obtain ⟨r0, r1⟩ := hSw; go_simp; (try with_reducible rfl))
                try simp only [Act.put]
                try simp only [List.setIfInBounds_toArray]
                try simp only [List.set_cons_succ, List.set_cons_zero]
                refine anyK_take2 (i := 11) (v := ?v13) rfl (by kernel_rfl) (by kernel_rfl) (by kernel_rfl) (by rfl) (fun _ _ _ h => h) (by rfl) hHeld ?hy13 (some 37) (by rfl) ?rest13
                case hy13 => (intro W hSw; obtain ⟨r0, r1⟩ := hSw; go_simp; (try with_reducible rfl))
                try simp only [Act.put]
                try simp only [List.setIfInBounds_toArray]
                try simp only [List.set_cons_succ, List.set_cons_zero]
                refine anyK_take2 (i := 12) (v := ?v14) rfl (by kernel_rfl) (by kernel_rfl) (by kernel_rfl) (by rfl) (fun _ _ _ h => h) (by rfl) hHeld ?hy14 (some 38) (by rfl) ?rest14
                case hy14 => (intro W hSw; obtain ⟨r0, r1⟩ := hSw; go_simp; (try with_reducible rfl))
                try simp only [Act.put]
                try simp only [List.setIfInBounds_toArray]
                try simp only [List.set_cons_succ, List.set_cons_zero]
                refine anyK_step (i := 14) (by kernel_rfl) rfl (fun KP hK => ?_)
                rw [if_pos (by rfl)]
                refine wp_store_row 26 (.tmp 6) (.tmp 37) rfl gq #[.int .i64 RL, .slice aq m cq] rfl rfl 26 _ HT.out size_pg rfl (by simp [Value.oneCell']) ?_
                have G := row_grown7 HT.out #[.int .i64 RL, .slice aq m cq]
                have HT' := hid (setRow_heap _ gq _ #[.int .i64 RL, .slice aq m cq] _ _ HT.out)
                have HQ' := hid ((HQ.out.beside HT.out (by decide) (by decide) G).mono (Nat.le_refl _) G.size)
                replace HP := hid (HP.out.beside HT.out (by decide) (by decide) G HGQ.out)
                clear G
                refine hK.out _ _ ?_ (fun hH2 => ?_)
                · exact HP.out.box
                clear hK KP hHeld
                have hHeld := hH2
                clear hH2
                try simp only [Act.put]
                try simp only [List.setIfInBounds_toArray]
                try simp only [List.set_cons_succ, List.set_cons_zero]
                refine anyK_take2 (i := 15) (v := ?v15) rfl (by kernel_rfl) (by kernel_rfl) (by kernel_rfl) (by rfl) (fun _ _ _ h => h) (by rfl) hHeld ?hy15 (some 7) (by rfl) ?rest15
                case hy15 => (intro W hSw; obtain ⟨r0, r1⟩ := hSw; go_simp; (try with_reducible rfl))
                try simp only [Act.put]
                try simp only [List.setIfInBounds_toArray]
                try simp only [List.set_cons_succ, List.set_cons_zero]
                refine anyK_done (by kernel_rfl) ?_ _
                go_wp2_with fail
                go_meet
                case rel => exact ⟨gq, RL, aq, m, cq, RS, _, rfl, rfl, HT', HQ', HLM, HSM, HGQ, HP⟩
            · go_simp
              have b := Below.alloc1 v1 (.cells #[.int .i64 0, .slice none 0 0] 26)
              have HT := hid (heap_alloc_new v1 (.cells #[.int .i64 0, .slice none 0 0] 26))
              have HGQ := hid (show pb < v1.heap.size from HP.out.sz)
              replace HDR := hid (owns_below b (Nat.le_refl _) HDR.out)
              replace HP := hid (HP.out.below b)
              clear b
              generalize v1.alloc (.cells #[.int .i64 0, .slice none 0 0] 26) = v1a at *
              generalize v1.heap.size = gq at *
              refine hK.out _ _ ?_ (fun hH2 => ?_)
              · exact HP.out.box
              clear hK KP hHeld
              have hHeld := hH2
              clear hH2
              try simp only [Act.put]
              try simp only [List.setIfInBounds_toArray]
              try simp only [List.set_cons_succ, List.set_cons_zero]
              refine anyK_step (i := 7) (by kernel_rfl) rfl (fun KP hK => ?_)
              go_simp
              refine (l1Below HP.out.cur hn 50 (by omega) (by omega)).mono ?_
              rintro e v2 ⟨x, rfl, x0, x1, c', gg⟩
              replace HDR := hid (own_cur HDR.out HP.out.cur gg)
              replace HT := hid (tup_cur HT.out (by have := HP.out.gl; have := HP.out.lo; have := HGQ.out; omega) gg)
              replace HP := hid (HP.out.go c' gg)
              have lw : IntKind.i64.wrap (1 + x) = 1 + x := by simp [IntKind.wrap, IntKind.bits, IntKind.signed]; omega
              clear c' gg
              go_wp2_with fail
              refine hK.out _ _ ?_ (fun hH2 => ?_)
              · exact HP.out.box
              clear hK KP hHeld
              have hHeld := hH2
              clear hH2
              try simp only [Act.put]
              try simp only [List.setIfInBounds_toArray]
              try simp only [List.set_cons_succ, List.set_cons_zero]
              refine anyK_take2 (i := 8) (v := ?v16) rfl (by kernel_rfl) (by kernel_rfl) (by kernel_rfl) (by rfl) (fun _ _ _ h => h) (by rfl) hHeld ?hy16 (some 35) (by rfl) ?rest16
              case hy16 => (intro W hSw; obtain ⟨r0, r1⟩ := hSw; go_simp; (try with_reducible rfl))
              try simp only [Act.put]
              try simp only [List.setIfInBounds_toArray]
              try simp only [List.set_cons_succ, List.set_cons_zero]
              refine anyK_step (i := 9) (by kernel_rfl) rfl (fun KP hK => ?_)
              obtain ⟨RL, RS, hR⟩ : ∃ (RL : Int) (RS : List (List Int)), putP L ss (placeP L ss nD) D (1 + x) = (RL, RS) := ⟨_, _, rfl⟩
              obtain ⟨m, hm⟩ : ∃ m, RS.length = m := ⟨_, rfl⟩
              have HSM := hid (put_small hR)
              have HLM := hid hm
              go_simp
              refine (spec_PagePut L c (placeP L ss nD) cD (1 + x) HP.out.own.rd HP.out.len (reads_of HDR.out HDB.out).1 (reads_of HDR.out HDB.out).2 hR rfl hm).mono ?_
              rintro e v3 ⟨aq, cq, rfl, oq, b⟩
              replace HDR := hid (owns_below b (Nat.le_refl _) HDR.out)
              replace HT := hid ((b.block gq (Array.getElem?_eq_some_iff.1 HT.out).1).trans HT.out)
              have HQ := hid (show OwnP v3 w.heap.size v3.heap.size _ RS from oq.mono (by have := HP.out.sz; have := HP.out.lo; omega) (Nat.le_refl _))
              replace HP := hid (HP.out.below b)
              clear b oq hR hm
              go_wp2_with fail
              refine hK.out _ _ ?_ (fun hH2 => ?_)
              · exact HP.out.box
              clear hK KP hHeld
              have hHeld := hH2
              clear hH2
              try simp only [Act.put]
              try simp only [List.setIfInBounds_toArray]
              try simp only [List.set_cons_succ, List.set_cons_zero]
              refine anyK_take2 (i := 10) (v := ?v17) rfl (by kernel_rfl) (by kernel_rfl) (by kernel_rfl) (by rfl) (fun _ _ _ h => h) (by rfl) hHeld ?hy17 (some 26) (by rfl) ?rest17
              case hy17 => (intro W hSw; obtain ⟨r0, r1⟩ := hSw; go_simp; (try with_reducible rfl))
              try simp only [Act.put]
              try simp only [List.setIfInBounds_toArray]
              try simp only [List.set_cons_succ, List.set_cons_zero]
              refine anyK_take2 (i := 11) (v := ?v18) rfl (by kernel_rfl) (by kernel_rfl) (by kernel_rfl) (by rfl) (fun _ _ _ h => h) (by rfl) hHeld ?hy18 (some 37) (by rfl) ?rest18
              case hy18 => (intro W hSw; obtain ⟨r0, r1⟩ := hSw; go_simp; (try with_reducible rfl))
              try simp only [Act.put]
              try simp only [List.setIfInBounds_toArray]
              try simp only [List.set_cons_succ, List.set_cons_zero]
              refine anyK_take2 (i := 12) (v := ?v19) rfl (by kernel_rfl) (by kernel_rfl) (by kernel_rfl) (by rfl) (fun _ _ _ h => h) (by rfl) hHeld ?hy19 (some 38) (by rfl) ?rest19
              case hy19 => (intro W hSw; obtain ⟨r0, r1⟩ := hSw; go_simp; (try with_reducible rfl))
              try simp only [Act.put]
              try simp only [List.setIfInBounds_toArray]
              try simp only [List.set_cons_succ, List.set_cons_zero]
              refine anyK_step (i := 14) (by kernel_rfl) rfl (fun KP hK => ?_)
              rw [if_pos (by rfl)]
              refine wp_store_row 26 (.tmp 6) (.tmp 37) rfl gq #[.int .i64 RL, .slice aq m cq] rfl rfl 26 _ HT.out size_pg rfl (by simp [Value.oneCell']) ?_
              have G := row_grown7 HT.out #[.int .i64 RL, .slice aq m cq]
              have HT' := hid (setRow_heap _ gq _ #[.int .i64 RL, .slice aq m cq] _ _ HT.out)
              have HQ' := hid ((HQ.out.beside HT.out (by decide) (by decide) G).mono (Nat.le_refl _) G.size)
              replace HP := hid (HP.out.beside HT.out (by decide) (by decide) G HGQ.out)
              clear G
              refine hK.out _ _ ?_ (fun hH2 => ?_)
              · exact HP.out.box
              clear hK KP hHeld
              have hHeld := hH2
              clear hH2
              try simp only [Act.put]
              try simp only [List.setIfInBounds_toArray]
              try simp only [List.set_cons_succ, List.set_cons_zero]
              refine anyK_take2 (i := 15) (v := ?v20) rfl (by kernel_rfl) (by kernel_rfl) (by kernel_rfl) (by rfl) (fun _ _ _ h => h) (by rfl) hHeld ?hy20 (some 7) (by rfl) ?rest20
              case hy20 => (intro W hSw; obtain ⟨r0, r1⟩ := hSw; go_simp; (try with_reducible rfl))
              try simp only [Act.put]
              try simp only [List.setIfInBounds_toArray]
              try simp only [List.set_cons_succ, List.set_cons_zero]
              refine anyK_done (by kernel_rfl) ?_ _
              go_wp2_with fail
              go_meet
              case rel => exact ⟨gq, RL, aq, m, cq, RS, _, rfl, rfl, HT', HQ', HLM, HSM, HGQ, HP⟩
          · go_simp
            have b := Below.alloc1 v0 (.cells #[.int .i64 0, .slice none 0 0] 26)
            have HT := hid (heap_alloc_new v0 (.cells #[.int .i64 0, .slice none 0 0] 26))
            have HGQ := hid (show pb < v0.heap.size from HP.out.sz)
            replace HDR := hid (owns_below b (Nat.le_refl _) HDR.out)
            replace HP := hid (HP.out.below b)
            clear b
            generalize v0.alloc (.cells #[.int .i64 0, .slice none 0 0] 26) = v0a at *
            generalize v0.heap.size = gq at *
            refine hK.out _ _ ?_ (fun hH2 => ?_)
            · exact HP.out.box
            clear hK KP hHeld
            have hHeld := hH2
            clear hH2
            try simp only [Act.put]
            try simp only [List.setIfInBounds_toArray]
            try simp only [List.set_cons_succ, List.set_cons_zero]
            refine anyK_step (i := 4) (by kernel_rfl) rfl (fun KP hK => ?_)
            go_simp
            refine (spec_PagePlace L c nD HP.out.own.rd HP.out.len (by have := HP.out.sm.n; have := HP.out.len; omega)).mono ?_
            rintro e v1 ⟨rfl, b⟩
            replace HDR := hid (owns_below b (Nat.le_refl _) HDR.out)
            replace HT := hid ((b.block gq (Array.getElem?_eq_some_iff.1 HT.out).1).trans HT.out)
            replace HP := hid (HP.out.below b)
            clear b
            go_wp2_with fail
            refine hK.out _ _ ?_ (fun hH2 => ?_)
            · exact HP.out.box
            clear hK KP hHeld
            have hHeld := hH2
            clear hH2
            try simp only [Act.put]
            try simp only [List.setIfInBounds_toArray]
            try simp only [List.set_cons_succ, List.set_cons_zero]
            refine anyK_step (i := 7) (by kernel_rfl) rfl (fun KP hK => ?_)
            go_simp
            refine (l1Below HP.out.cur hn 50 (by omega) (by omega)).mono ?_
            rintro e v2 ⟨x, rfl, x0, x1, c', gg⟩
            replace HDR := hid (own_cur HDR.out HP.out.cur gg)
            replace HT := hid (tup_cur HT.out (by have := HP.out.gl; have := HP.out.lo; have := HGQ.out; omega) gg)
            replace HP := hid (HP.out.go c' gg)
            have lw : IntKind.i64.wrap (1 + x) = 1 + x := by simp [IntKind.wrap, IntKind.bits, IntKind.signed]; omega
            clear c' gg
            go_wp2_with fail
            refine hK.out _ _ ?_ (fun hH2 => ?_)
            · exact HP.out.box
            clear hK KP hHeld
            have hHeld := hH2
            clear hH2
            try simp only [Act.put]
            try simp only [List.setIfInBounds_toArray]
            try simp only [List.set_cons_succ, List.set_cons_zero]
            refine anyK_take2 (i := 8) (v := ?v21) rfl (by kernel_rfl) (by kernel_rfl) (by kernel_rfl) (by rfl) (fun _ _ _ h => h) (by rfl) hHeld ?hy21 (some 35) (by rfl) ?rest21
            case hy21 => (intro W hSw; obtain ⟨r0, r1⟩ := hSw; go_simp; (try with_reducible rfl))
            try simp only [Act.put]
            try simp only [List.setIfInBounds_toArray]
            try simp only [List.set_cons_succ, List.set_cons_zero]
            refine anyK_step (i := 9) (by kernel_rfl) rfl (fun KP hK => ?_)
            obtain ⟨RL, RS, hR⟩ : ∃ (RL : Int) (RS : List (List Int)), putP L ss (placeP L ss nD) D (1 + x) = (RL, RS) := ⟨_, _, rfl⟩
            obtain ⟨m, hm⟩ : ∃ m, RS.length = m := ⟨_, rfl⟩
            have HSM := hid (put_small hR)
            have HLM := hid hm
            go_simp
            refine (spec_PagePut L c (placeP L ss nD) cD (1 + x) HP.out.own.rd HP.out.len (reads_of HDR.out HDB.out).1 (reads_of HDR.out HDB.out).2 hR rfl hm).mono ?_
            rintro e v3 ⟨aq, cq, rfl, oq, b⟩
            replace HDR := hid (owns_below b (Nat.le_refl _) HDR.out)
            replace HT := hid ((b.block gq (Array.getElem?_eq_some_iff.1 HT.out).1).trans HT.out)
            have HQ := hid (show OwnP v3 w.heap.size v3.heap.size _ RS from oq.mono (by have := HP.out.sz; have := HP.out.lo; omega) (Nat.le_refl _))
            replace HP := hid (HP.out.below b)
            clear b oq hR hm
            go_wp2_with fail
            refine hK.out _ _ ?_ (fun hH2 => ?_)
            · exact HP.out.box
            clear hK KP hHeld
            have hHeld := hH2
            clear hH2
            try simp only [Act.put]
            try simp only [List.setIfInBounds_toArray]
            try simp only [List.set_cons_succ, List.set_cons_zero]
            refine anyK_take2 (i := 10) (v := ?v22) rfl (by kernel_rfl) (by kernel_rfl) (by kernel_rfl) (by rfl) (fun _ _ _ h => h) (by rfl) hHeld ?hy22 (some 26) (by rfl) ?rest22
            case hy22 => (intro W hSw; obtain ⟨r0, r1⟩ := hSw; go_simp; (try with_reducible rfl))
            try simp only [Act.put]
            try simp only [List.setIfInBounds_toArray]
            try simp only [List.set_cons_succ, List.set_cons_zero]
            refine anyK_take2 (i := 11) (v := ?v23) rfl (by kernel_rfl) (by kernel_rfl) (by kernel_rfl) (by rfl) (fun _ _ _ h => h) (by rfl) hHeld ?hy23 (some 37) (by rfl) ?rest23
            case hy23 => (intro W hSw; obtain ⟨r0, r1⟩ := hSw; go_simp; (try with_reducible rfl))
            try simp only [Act.put]
            try simp only [List.setIfInBounds_toArray]
            try simp only [List.set_cons_succ, List.set_cons_zero]
            refine anyK_take2 (i := 12) (v := ?v24) rfl (by kernel_rfl) (by kernel_rfl) (by kernel_rfl) (by rfl) (fun _ _ _ h => h) (by rfl) hHeld ?hy24 (some 38) (by rfl) ?rest24
            case hy24 => (intro W hSw; obtain ⟨r0, r1⟩ := hSw; go_simp; (try with_reducible rfl))
            try simp only [Act.put]
            try simp only [List.setIfInBounds_toArray]
            try simp only [List.set_cons_succ, List.set_cons_zero]
            refine anyK_step (i := 14) (by kernel_rfl) rfl (fun KP hK => ?_)
            rw [if_pos (by rfl)]
            refine wp_store_row 26 (.tmp 6) (.tmp 37) rfl gq #[.int .i64 RL, .slice aq m cq] rfl rfl 26 _ HT.out size_pg rfl (by simp [Value.oneCell']) ?_
            have G := row_grown7 HT.out #[.int .i64 RL, .slice aq m cq]
            have HT' := hid (setRow_heap _ gq _ #[.int .i64 RL, .slice aq m cq] _ _ HT.out)
            have HQ' := hid ((HQ.out.beside HT.out (by decide) (by decide) G).mono (Nat.le_refl _) G.size)
            replace HP := hid (HP.out.beside HT.out (by decide) (by decide) G HGQ.out)
            clear G
            refine hK.out _ _ ?_ (fun hH2 => ?_)
            · exact HP.out.box
            clear hK KP hHeld
            have hHeld := hH2
            clear hH2
            try simp only [Act.put]
            try simp only [List.setIfInBounds_toArray]
            try simp only [List.set_cons_succ, List.set_cons_zero]
            refine anyK_take2 (i := 15) (v := ?v25) rfl (by kernel_rfl) (by kernel_rfl) (by kernel_rfl) (by rfl) (fun _ _ _ h => h) (by rfl) hHeld ?hy25 (some 7) (by rfl) ?rest25
            case hy25 => (intro W hSw; obtain ⟨r0, r1⟩ := hSw; go_simp; (try with_reducible rfl))
            try simp only [Act.put]
            try simp only [List.setIfInBounds_toArray]
            try simp only [List.set_cons_succ, List.set_cons_zero]
            refine anyK_done (by kernel_rfl) ?_ _
            go_wp2_with fail
            go_meet
            case rel => exact ⟨gq, RL, aq, m, cq, RS, _, rfl, rfl, HT', HQ', HLM, HSM, HGQ, HP⟩
        case rest =>
          clear HP HDR
          obtain ⟨gq, RL, aq, m, cq, RS, okb, rfl, rfl, HT, HQ, HLM, HSM, HGQ, HP⟩ := hcut
          go_upto_if 39 with fail
          go_cut [] (fun wx => ∃ (L : Int) (a : Option Addr) (k c : Nat) (ss : List (List Int)), Hid (PgS w wx pb g ad nn cap zs L a k c ss))
          case first =>
            cases okb
            · go_wp2_with fail
              go_meet
              case rel => exact ⟨L, a, k, c, ss, HP⟩
            · obtain ⟨y0, y1⟩ := HP.out.box
              have q0 : wc.cell? ⟨gq, 0, none⟩ = some (.int .i64 RL) := cell_of_row _ _ 0 _ _ _ HT.out
              have q1 : wc.cell? ⟨gq, 1, none⟩ = some (.slice aq m cq) := cell_of_row _ _ 1 _ _ _ HT.out
              have f0 : wc.frozen? ⟨pb, 0, none⟩ = false := frozen_of_row _ _ _ _ _ HP.out.row
              have f1 : wc.frozen? ⟨pb, 1, none⟩ = false := frozen_of_row _ _ _ _ _ HP.out.row
              have HP2 := hid (HP.out.put (L2 := RL) HQ.out HLM.out HSM.out)
              go_wp2_with fail
              go_meet
              case rel => exact ⟨RL, aq, m, cq, RS, HP2⟩
          case rest =>
            clear HP HT HQ HLM HSM HGQ
            obtain ⟨L, a, k, c, ss, HP⟩ := hcut
            go_wp2_with fail
            refine (l1Once HP.out.cur hn 5 (by omega) (by omega)).mono ?_
            rintro e w9 ⟨b5, rfl, c', gg⟩
            replace HP := hid (HP.out.go c' gg)
            clear c' gg
            cases b5
            · go_wp2_with fail
              go_roundw
              case rel => exact ⟨x - 1, L, a, k, c, ss, by go_num, by omega, by omega, HP⟩
              case measure => simp [intOf]; omega
            · obtain ⟨y0, y1⟩ := HP.out.box
              by_cases hk0 : k = 0
              · subst hk0
                go_wp2_with fail
                go_roundw
                case rel => exact ⟨x - 1, L, a, 0, c, ss, by go_num, by omega, by omega, HP⟩
                case measure => simp [intOf]; omega
              · have hk1 : (0 : Int) < (k : Int) := by omega
                have hk16 : k ≤ 1000000 := by have := HP.out.sm.n; have := HP.out.len; omega
                go_wp2_with fail
                clear y0 y1
                replace HP := hid (HP.out.below ((Still.drew w9).below _))
                refine region_K 99 (fun _ => True) (by kernel_rfl) trivial (fun hHeld => ?_)
                generalize w9.drew = v0 at *
                refine anyK_take2 (i := 1) (v := ?v26) rfl (by kernel_rfl) (by kernel_rfl) (by kernel_rfl) (by rfl) (fun _ _ _ h => h) (by rfl) hHeld ?hy26 (some 51) (by rfl) ?rest26
                case hy26 => (intro W hSw; go_simp; (try with_reducible rfl))
                try simp only [Act.put]
                try simp only [List.setIfInBounds_toArray]
                try simp only [List.set_cons_succ, List.set_cons_zero]
                refine anyK_take2 (i := 2) (v := ?v27) rfl (by kernel_rfl) (by kernel_rfl) (by kernel_rfl) (by rfl) (fun _ _ _ h => h) (by rfl) hHeld ?hy27 (some 52) (by rfl) ?rest27
                case hy27 => (intro W hSw; go_simp; (try with_reducible rfl))
                try simp only [Act.put]
                try simp only [List.setIfInBounds_toArray]
                try simp only [List.set_cons_succ, List.set_cons_zero]
                refine anyK_take2 (i := 6) (v := ?v28) rfl (by kernel_rfl) (by kernel_rfl) (by kernel_rfl) (by rfl) (fun _ _ _ h => h) (by rfl) hHeld ?hy28 (some 56) (by rfl) ?rest28
                case hy28 => (intro W hSw; go_simp; (try with_reducible rfl))
                try simp only [Act.put]
                try simp only [List.setIfInBounds_toArray]
                try simp only [List.set_cons_succ, List.set_cons_zero]
                refine anyK_two (i := 0) (j := 3) (by kernel_rfl) rfl rfl (fun KP hK => ?_) (fun KP hK => ?_)
                · obtain ⟨y0, y1⟩ := HP.out.box
                  go_simp
                  clear y0 y1
                  refine hK.out _ _ trivial (fun hH2 => ?_)
                  clear hK KP hHeld
                  have hHeld := hH2
                  clear hH2
                  try simp only [Act.put]
                  try simp only [List.setIfInBounds_toArray]
                  try simp only [List.set_cons_succ, List.set_cons_zero]
                  refine anyK_step (i := 3) (by kernel_rfl) rfl (fun KP hK => ?_)
                  obtain ⟨y0, y1⟩ := HP.out.box
                  go_simp
                  clear y0 y1
                  refine hK.out _ _ trivial (fun hH2 => ?_)
                  clear hK KP hHeld
                  have hHeld := hH2
                  clear hH2
                  try simp only [Act.put]
                  try simp only [List.setIfInBounds_toArray]
                  try simp only [List.set_cons_succ, List.set_cons_zero]
                  refine anyK_take2 (i := 4) (v := ?v29) rfl (by kernel_rfl) (by kernel_rfl) (by kernel_rfl) (by rfl) (fun _ _ _ h => h) (by rfl) hHeld ?hy29 (some 54) (by rfl) ?rest29
                  case hy29 => (intro W hSw; go_simp; (try with_reducible rfl))
                  try simp only [Act.put]
                  try simp only [List.setIfInBounds_toArray]
                  try simp only [List.set_cons_succ, List.set_cons_zero]
                  refine anyK_step (i := 5) (by kernel_rfl) rfl (fun KP hK => ?_)
                  go_simp
                  refine (l1Below HP.out.cur hn (k : Int) hk1 (by omega)).mono ?_
                  rintro e v1 ⟨x2, rfl, x20, x21, c', gg⟩
                  replace HP := hid (HP.out.go c' gg)
                  clear c' gg
                  go_wp2_with fail
                  refine hK.out _ _ trivial (fun hH2 => ?_)
                  clear hK KP hHeld
                  have hHeld := hH2
                  clear hH2
                  try simp only [Act.put]
                  try simp only [List.setIfInBounds_toArray]
                  try simp only [List.set_cons_succ, List.set_cons_zero]
                  refine anyK_step (i := 7) (by kernel_rfl) rfl (fun KP hK => ?_)
                  go_simp
                  refine (l1Below HP.out.cur hn 50 (by omega) (by omega)).mono ?_
                  rintro e v2 ⟨x3, rfl, x30, x31, c', gg⟩
                  replace HP := hid (HP.out.go c' gg)
                  have lw : IntKind.i64.wrap (1 + x3) = 1 + x3 := by simp [IntKind.wrap, IntKind.bits, IntKind.signed]; omega
                  clear c' gg
                  go_wp2_with fail
                  refine hK.out _ _ trivial (fun hH2 => ?_)
                  clear hK KP hHeld
                  have hHeld := hH2
                  clear hH2
                  try simp only [Act.put]
                  try simp only [List.setIfInBounds_toArray]
                  try simp only [List.set_cons_succ, List.set_cons_zero]
                  refine anyK_take2 (i := 8) (v := ?v30) rfl (by kernel_rfl) (by kernel_rfl) (by kernel_rfl) (by rfl) (fun _ _ _ h => h) (by rfl) hHeld ?hy30 (some 58) (by rfl) ?rest30
                  case hy30 => (intro W hSw; go_simp; (try with_reducible rfl))
                  try simp only [Act.put]
                  try simp only [List.setIfInBounds_toArray]
                  try simp only [List.set_cons_succ, List.set_cons_zero]
                  refine anyK_step (i := 9) (by kernel_rfl) rfl (fun KP hK => ?_)
                  obtain ⟨RL, RS, hR⟩ : ∃ (RL : Int) (RS : List (List Int)), clearP L ss x2 (1 + x3) = (RL, RS) := ⟨_, _, rfl⟩
                  obtain ⟨m, hm⟩ : ∃ m, RS.length = m := ⟨_, rfl⟩
                  have HSM := hid (clear_small hR)
                  have HLM := hid hm
                  go_simp
                  refine (spec_PageClear L c x2 (1 + x3) HP.out.own.rd HP.out.len hR rfl hm).mono ?_
                  rintro e v3 ⟨aq, cq, rfl, oq, b⟩
                  have HQ := hid (show OwnP v3 w.heap.size v3.heap.size _ RS from oq.mono (by have := HP.out.sz; have := HP.out.lo; omega) (Nat.le_refl _))
                  replace HP := hid (HP.out.below b)
                  clear b oq hR hm
                  go_wp2_with fail
                  refine hK.out _ _ trivial (fun hH2 => ?_)
                  clear hK KP hHeld
                  have hHeld := hH2
                  clear hH2
                  try simp only [Act.put]
                  try simp only [List.setIfInBounds_toArray]
                  try simp only [List.set_cons_succ, List.set_cons_zero]
                  refine anyK_take2 (i := 10) (v := ?v31) rfl (by kernel_rfl) (by kernel_rfl) (by kernel_rfl) (by rfl) (fun _ _ _ h => h) (by rfl) hHeld ?hy31 (some 49) (by rfl) ?rest31
                  case hy31 => (intro W hSw; go_simp; (try with_reducible rfl))
                  try simp only [Act.put]
                  try simp only [List.setIfInBounds_toArray]
                  try simp only [List.set_cons_succ, List.set_cons_zero]
                  refine anyK_take2 (i := 11) (v := ?v32) rfl (by kernel_rfl) (by kernel_rfl) (by kernel_rfl) (by rfl) (fun _ _ _ h => h) (by rfl) hHeld ?hy32 (some 60) (by rfl) ?rest32
                  case hy32 => (intro W hSw; go_simp; (try with_reducible rfl))
                  try simp only [Act.put]
                  try simp only [List.setIfInBounds_toArray]
                  try simp only [List.set_cons_succ, List.set_cons_zero]
                  refine anyK_take2 (i := 12) (v := ?v33) rfl (by kernel_rfl) (by kernel_rfl) (by kernel_rfl) (by rfl) (fun _ _ _ h => h) (by rfl) hHeld ?hy33 (some 61) (by rfl) ?rest33
                  case hy33 => (intro W hSw; go_simp; (try with_reducible rfl))
                  try simp only [Act.put]
                  try simp only [List.setIfInBounds_toArray]
                  try simp only [List.set_cons_succ, List.set_cons_zero]
                  refine anyK_step (i := 13) (by kernel_rfl) rfl (fun KP hK => ?_)
                  rw [if_pos (by rfl)]
                  refine wp_store_row 26 (.tmp 3) (.tmp 60) rfl pb #[.int .i64 RL, .slice aq m cq] rfl rfl 26 _ HP.out.row size_pg rfl (by simp [Value.oneCell']) ?_
                  replace HP := hid (HP.out.putRow (L2 := RL) HQ.out HLM.out HSM.out)
                  refine hK.out _ _ trivial (fun hH2 => ?_)
                  clear hK KP hHeld
                  have hHeld := hH2
                  clear hH2
                  try simp only [Act.put]
                  try simp only [List.setIfInBounds_toArray]
                  try simp only [List.set_cons_succ, List.set_cons_zero]
                  refine anyK_done (by kernel_rfl) ?_ _
                  clear hHeld lw
                  go_wp2_with fail
                  go_roundw
                  case rel => exact ⟨x - 1, RL, aq, m, cq, RS, by go_num, by omega, by omega, HP⟩
                  case measure => simp [intOf]; omega
                · obtain ⟨y0, y1⟩ := HP.out.box
                  go_simp
                  clear y0 y1
                  refine hK.out _ _ trivial (fun hH2 => ?_)
                  clear hK KP hHeld
                  have hHeld := hH2
                  clear hH2
                  try simp only [Act.put]
                  try simp only [List.setIfInBounds_toArray]
                  try simp only [List.set_cons_succ, List.set_cons_zero]
                  refine anyK_take2 (i := 4) (v := ?v34) rfl (by kernel_rfl) (by kernel_rfl) (by kernel_rfl) (by rfl) (fun _ _ _ h => h) (by rfl) hHeld ?hy34 (some 54) (by rfl) ?rest34
                  case hy34 => (intro W hSw; go_simp; (try with_reducible rfl))
                  try simp only [Act.put]
                  try simp only [List.setIfInBounds_toArray]
                  try simp only [List.set_cons_succ, List.set_cons_zero]
                  refine anyK_two (i := 0) (j := 5) (by kernel_rfl) rfl rfl (fun KP hK => ?_) (fun KP hK => ?_)
                  · obtain ⟨y0, y1⟩ := HP.out.box
                    go_simp
                    clear y0 y1
                    refine hK.out _ _ trivial (fun hH2 => ?_)
                    clear hK KP hHeld
                    have hHeld := hH2
                    clear hH2
                    try simp only [Act.put]
                    try simp only [List.setIfInBounds_toArray]
                    try simp only [List.set_cons_succ, List.set_cons_zero]
                    refine anyK_step (i := 5) (by kernel_rfl) rfl (fun KP hK => ?_)
                    go_simp
                    refine (l1Below HP.out.cur hn (k : Int) hk1 (by omega)).mono ?_
                    rintro e v1 ⟨x2, rfl, x20, x21, c', gg⟩
                    replace HP := hid (HP.out.go c' gg)
                    clear c' gg
                    go_wp2_with fail
                    refine hK.out _ _ trivial (fun hH2 => ?_)
                    clear hK KP hHeld
                    have hHeld := hH2
                    clear hH2
                    try simp only [Act.put]
                    try simp only [List.setIfInBounds_toArray]
                    try simp only [List.set_cons_succ, List.set_cons_zero]
                    refine anyK_step (i := 7) (by kernel_rfl) rfl (fun KP hK => ?_)
                    go_simp
                    refine (l1Below HP.out.cur hn 50 (by omega) (by omega)).mono ?_
                    rintro e v2 ⟨x3, rfl, x30, x31, c', gg⟩
                    replace HP := hid (HP.out.go c' gg)
                    have lw : IntKind.i64.wrap (1 + x3) = 1 + x3 := by simp [IntKind.wrap, IntKind.bits, IntKind.signed]; omega
                    clear c' gg
                    go_wp2_with fail
                    refine hK.out _ _ trivial (fun hH2 => ?_)
                    clear hK KP hHeld
                    have hHeld := hH2
                    clear hH2
                    try simp only [Act.put]
                    try simp only [List.setIfInBounds_toArray]
                    try simp only [List.set_cons_succ, List.set_cons_zero]
                    refine anyK_take2 (i := 8) (v := ?v35) rfl (by kernel_rfl) (by kernel_rfl) (by kernel_rfl) (by rfl) (fun _ _ _ h => h) (by rfl) hHeld ?hy35 (some 58) (by rfl) ?rest35
                    case hy35 => (intro W hSw; go_simp; (try with_reducible rfl))
                    try simp only [Act.put]
                    try simp only [List.setIfInBounds_toArray]
                    try simp only [List.set_cons_succ, List.set_cons_zero]
                    refine anyK_step (i := 9) (by kernel_rfl) rfl (fun KP hK => ?_)
                    obtain ⟨RL, RS, hR⟩ : ∃ (RL : Int) (RS : List (List Int)), clearP L ss x2 (1 + x3) = (RL, RS) := ⟨_, _, rfl⟩
                    obtain ⟨m, hm⟩ : ∃ m, RS.length = m := ⟨_, rfl⟩
                    have HSM := hid (clear_small hR)
                    have HLM := hid hm
                    go_simp
                    refine (spec_PageClear L c x2 (1 + x3) HP.out.own.rd HP.out.len hR rfl hm).mono ?_
                    rintro e v3 ⟨aq, cq, rfl, oq, b⟩
                    have HQ := hid (show OwnP v3 w.heap.size v3.heap.size _ RS from oq.mono (by have := HP.out.sz; have := HP.out.lo; omega) (Nat.le_refl _))
                    replace HP := hid (HP.out.below b)
                    clear b oq hR hm
                    go_wp2_with fail
                    refine hK.out _ _ trivial (fun hH2 => ?_)
                    clear hK KP hHeld
                    have hHeld := hH2
                    clear hH2
                    try simp only [Act.put]
                    try simp only [List.setIfInBounds_toArray]
                    try simp only [List.set_cons_succ, List.set_cons_zero]
                    refine anyK_take2 (i := 10) (v := ?v36) rfl (by kernel_rfl) (by kernel_rfl) (by kernel_rfl) (by rfl) (fun _ _ _ h => h) (by rfl) hHeld ?hy36 (some 49) (by rfl) ?rest36
                    case hy36 => (intro W hSw; go_simp; (try with_reducible rfl))
                    try simp only [Act.put]
                    try simp only [List.setIfInBounds_toArray]
                    try simp only [List.set_cons_succ, List.set_cons_zero]
                    refine anyK_take2 (i := 11) (v := ?v37) rfl (by kernel_rfl) (by kernel_rfl) (by kernel_rfl) (by rfl) (fun _ _ _ h => h) (by rfl) hHeld ?hy37 (some 60) (by rfl) ?rest37
                    case hy37 => (intro W hSw; go_simp; (try with_reducible rfl))
                    try simp only [Act.put]
                    try simp only [List.setIfInBounds_toArray]
                    try simp only [List.set_cons_succ, List.set_cons_zero]
                    refine anyK_take2 (i := 12) (v := ?v38) rfl (by kernel_rfl) (by kernel_rfl) (by kernel_rfl) (by rfl) (fun _ _ _ h => h) (by rfl) hHeld ?hy38 (some 61) (by rfl) ?rest38
                    case hy38 => (intro W hSw; go_simp; (try with_reducible rfl))
                    try simp only [Act.put]
                    try simp only [List.setIfInBounds_toArray]
                    try simp only [List.set_cons_succ, List.set_cons_zero]
                    refine anyK_step (i := 13) (by kernel_rfl) rfl (fun KP hK => ?_)
                    rw [if_pos (by rfl)]
                    refine wp_store_row 26 (.tmp 3) (.tmp 60) rfl pb #[.int .i64 RL, .slice aq m cq] rfl rfl 26 _ HP.out.row size_pg rfl (by simp [Value.oneCell']) ?_
                    replace HP := hid (HP.out.putRow (L2 := RL) HQ.out HLM.out HSM.out)
                    refine hK.out _ _ trivial (fun hH2 => ?_)
                    clear hK KP hHeld
                    have hHeld := hH2
                    clear hH2
                    try simp only [Act.put]
                    try simp only [List.setIfInBounds_toArray]
                    try simp only [List.set_cons_succ, List.set_cons_zero]
                    refine anyK_done (by kernel_rfl) ?_ _
                    clear hHeld lw
                    go_wp2_with fail
                    go_roundw
                    case rel => exact ⟨x - 1, RL, aq, m, cq, RS, by go_num, by omega, by omega, HP⟩
                    case measure => simp [intOf]; omega
                  · go_simp
                    refine (l1Below HP.out.cur hn (k : Int) hk1 (by omega)).mono ?_
                    rintro e v1 ⟨x2, rfl, x20, x21, c', gg⟩
                    replace HP := hid (HP.out.go c' gg)
                    clear c' gg
                    go_wp2_with fail
                    refine hK.out _ _ trivial (fun hH2 => ?_)
                    clear hK KP hHeld
                    have hHeld := hH2
                    clear hH2
                    try simp only [Act.put]
                    try simp only [List.setIfInBounds_toArray]
                    try simp only [List.set_cons_succ, List.set_cons_zero]
                    refine anyK_two (i := 0) (j := 7) (by kernel_rfl) rfl rfl (fun KP hK => ?_) (fun KP hK => ?_)
                    · obtain ⟨y0, y1⟩ := HP.out.box
                      go_simp
                      clear y0 y1
                      refine hK.out _ _ trivial (fun hH2 => ?_)
                      clear hK KP hHeld
                      have hHeld := hH2
                      clear hH2
                      try simp only [Act.put]
                      try simp only [List.setIfInBounds_toArray]
                      try simp only [List.set_cons_succ, List.set_cons_zero]
                      refine anyK_step (i := 7) (by kernel_rfl) rfl (fun KP hK => ?_)
                      go_simp
                      refine (l1Below HP.out.cur hn 50 (by omega) (by omega)).mono ?_
                      rintro e v2 ⟨x3, rfl, x30, x31, c', gg⟩
                      replace HP := hid (HP.out.go c' gg)
                      have lw : IntKind.i64.wrap (1 + x3) = 1 + x3 := by simp [IntKind.wrap, IntKind.bits, IntKind.signed]; omega
                      clear c' gg
                      go_wp2_with fail
                      refine hK.out _ _ trivial (fun hH2 => ?_)
                      clear hK KP hHeld
                      have hHeld := hH2
                      clear hH2
                      try simp only [Act.put]
                      try simp only [List.setIfInBounds_toArray]
                      try simp only [List.set_cons_succ, List.set_cons_zero]
                      refine anyK_take2 (i := 8) (v := ?v39) rfl (by kernel_rfl) (by kernel_rfl) (by kernel_rfl) (by rfl) (fun _ _ _ h => h) (by rfl) hHeld ?hy39 (some 58) (by rfl) ?rest39
                      case hy39 => (intro W hSw; go_simp; (try with_reducible rfl))
                      try simp only [Act.put]
                      try simp only [List.setIfInBounds_toArray]
                      try simp only [List.set_cons_succ, List.set_cons_zero]
                      refine anyK_step (i := 9) (by kernel_rfl) rfl (fun KP hK => ?_)
                      obtain ⟨RL, RS, hR⟩ : ∃ (RL : Int) (RS : List (List Int)), clearP L ss x2 (1 + x3) = (RL, RS) := ⟨_, _, rfl⟩
                      obtain ⟨m, hm⟩ : ∃ m, RS.length = m := ⟨_, rfl⟩
                      have HSM := hid (clear_small hR)
                      have HLM := hid hm
                      go_simp
                      refine (spec_PageClear L c x2 (1 + x3) HP.out.own.rd HP.out.len hR rfl hm).mono ?_
                      rintro e v3 ⟨aq, cq, rfl, oq, b⟩
                      have HQ := hid (show OwnP v3 w.heap.size v3.heap.size _ RS from oq.mono (by have := HP.out.sz; have := HP.out.lo; omega) (Nat.le_refl _))
                      replace HP := hid (HP.out.below b)
                      clear b oq hR hm
                      go_wp2_with fail
                      refine hK.out _ _ trivial (fun hH2 => ?_)
                      clear hK KP hHeld
                      have hHeld := hH2
                      clear hH2
                      try simp only [Act.put]
                      try simp only [List.setIfInBounds_toArray]
                      try simp only [List.set_cons_succ, List.set_cons_zero]
                      refine anyK_take2 (i := 10) (v := ?v40) rfl (by kernel_rfl) (by kernel_rfl) (by kernel_rfl) (by rfl) (fun _ _ _ h => h) (by rfl) hHeld ?hy40 (some 49) (by rfl) ?rest40
                      case hy40 => (intro W hSw; go_simp; (try with_reducible rfl))
                      try simp only [Act.put]
                      try simp only [List.setIfInBounds_toArray]
                      try simp only [List.set_cons_succ, List.set_cons_zero]
                      refine anyK_take2 (i := 11) (v := ?v41) rfl (by kernel_rfl) (by kernel_rfl) (by kernel_rfl) (by rfl) (fun _ _ _ h => h) (by rfl) hHeld ?hy41 (some 60) (by rfl) ?rest41
                      case hy41 => (intro W hSw; go_simp; (try with_reducible rfl))
                      try simp only [Act.put]
                      try simp only [List.setIfInBounds_toArray]
                      try simp only [List.set_cons_succ, List.set_cons_zero]
                      refine anyK_take2 (i := 12) (v := ?v42) rfl (by kernel_rfl) (by kernel_rfl) (by kernel_rfl) (by rfl) (fun _ _ _ h => h) (by rfl) hHeld ?hy42 (some 61) (by rfl) ?rest42
                      case hy42 => (intro W hSw; go_simp; (try with_reducible rfl))
                      try simp only [Act.put]
                      try simp only [List.setIfInBounds_toArray]
                      try simp only [List.set_cons_succ, List.set_cons_zero]
                      refine anyK_step (i := 13) (by kernel_rfl) rfl (fun KP hK => ?_)
                      rw [if_pos (by rfl)]
                      refine wp_store_row 26 (.tmp 3) (.tmp 60) rfl pb #[.int .i64 RL, .slice aq m cq] rfl rfl 26 _ HP.out.row size_pg rfl (by simp [Value.oneCell']) ?_
                      replace HP := hid (HP.out.putRow (L2 := RL) HQ.out HLM.out HSM.out)
                      refine hK.out _ _ trivial (fun hH2 => ?_)
                      clear hK KP hHeld
                      have hHeld := hH2
                      clear hH2
                      try simp only [Act.put]
                      try simp only [List.setIfInBounds_toArray]
                      try simp only [List.set_cons_succ, List.set_cons_zero]
                      refine anyK_done (by kernel_rfl) ?_ _
                      clear hHeld lw
                      go_wp2_with fail
                      go_roundw
                      case rel => exact ⟨x - 1, RL, aq, m, cq, RS, by go_num, by omega, by omega, HP⟩
                      case measure => simp [intOf]; omega
                    · go_simp
                      refine (l1Below HP.out.cur hn 50 (by omega) (by omega)).mono ?_
                      rintro e v2 ⟨x3, rfl, x30, x31, c', gg⟩
                      replace HP := hid (HP.out.go c' gg)
                      have lw : IntKind.i64.wrap (1 + x3) = 1 + x3 := by simp [IntKind.wrap, IntKind.bits, IntKind.signed]; omega
                      clear c' gg
                      go_wp2_with fail
                      refine hK.out _ _ trivial (fun hH2 => ?_)
                      clear hK KP hHeld
                      have hHeld := hH2
                      clear hH2
                      try simp only [Act.put]
                      try simp only [List.setIfInBounds_toArray]
                      try simp only [List.set_cons_succ, List.set_cons_zero]
                      refine anyK_take2 (i := 8) (v := ?v43) rfl (by kernel_rfl) (by kernel_rfl) (by kernel_rfl) (by rfl) (fun _ _ _ h => h) (by rfl) hHeld ?hy43 (some 58) (by rfl) ?rest43
                      case hy43 => (intro W hSw; go_simp; (try with_reducible rfl))
                      try simp only [Act.put]
                      try simp only [List.setIfInBounds_toArray]
                      try simp only [List.set_cons_succ, List.set_cons_zero]
                      refine anyK_step (i := 0) (by kernel_rfl) rfl (fun KP hK => ?_)
                      obtain ⟨y0, y1⟩ := HP.out.box
                      go_simp
                      clear y0 y1
                      refine hK.out _ _ trivial (fun hH2 => ?_)
                      clear hK KP hHeld
                      have hHeld := hH2
                      clear hH2
                      try simp only [Act.put]
                      try simp only [List.setIfInBounds_toArray]
                      try simp only [List.set_cons_succ, List.set_cons_zero]
                      refine anyK_step (i := 9) (by kernel_rfl) rfl (fun KP hK => ?_)
                      obtain ⟨RL, RS, hR⟩ : ∃ (RL : Int) (RS : List (List Int)), clearP L ss x2 (1 + x3) = (RL, RS) := ⟨_, _, rfl⟩
                      obtain ⟨m, hm⟩ : ∃ m, RS.length = m := ⟨_, rfl⟩
                      have HSM := hid (clear_small hR)
                      have HLM := hid hm
                      go_simp
                      refine (spec_PageClear L c x2 (1 + x3) HP.out.own.rd HP.out.len hR rfl hm).mono ?_
                      rintro e v3 ⟨aq, cq, rfl, oq, b⟩
                      have HQ := hid (show OwnP v3 w.heap.size v3.heap.size _ RS from oq.mono (by have := HP.out.sz; have := HP.out.lo; omega) (Nat.le_refl _))
                      replace HP := hid (HP.out.below b)
                      clear b oq hR hm
                      go_wp2_with fail
                      refine hK.out _ _ trivial (fun hH2 => ?_)
                      clear hK KP hHeld
                      have hHeld := hH2
                      clear hH2
                      try simp only [Act.put]
                      try simp only [List.setIfInBounds_toArray]
                      try simp only [List.set_cons_succ, List.set_cons_zero]
                      refine anyK_take2 (i := 10) (v := ?v44) rfl (by kernel_rfl) (by kernel_rfl) (by kernel_rfl) (by rfl) (fun _ _ _ h => h) (by rfl) hHeld ?hy44 (some 49) (by rfl) ?rest44
                      case hy44 => (intro W hSw; go_simp; (try with_reducible rfl))
                      try simp only [Act.put]
                      try simp only [List.setIfInBounds_toArray]
                      try simp only [List.set_cons_succ, List.set_cons_zero]
                      refine anyK_take2 (i := 11) (v := ?v45) rfl (by kernel_rfl) (by kernel_rfl) (by kernel_rfl) (by rfl) (fun _ _ _ h => h) (by rfl) hHeld ?hy45 (some 60) (by rfl) ?rest45
                      case hy45 => (intro W hSw; go_simp; (try with_reducible rfl))
                      try simp only [Act.put]
                      try simp only [List.setIfInBounds_toArray]
                      try simp only [List.set_cons_succ, List.set_cons_zero]
                      refine anyK_take2 (i := 12) (v := ?v46) rfl (by kernel_rfl) (by kernel_rfl) (by kernel_rfl) (by rfl) (fun _ _ _ h => h) (by rfl) hHeld ?hy46 (some 61) (by rfl) ?rest46
                      case hy46 => (intro W hSw; go_simp; (try with_reducible rfl))
                      try simp only [Act.put]
                      try simp only [List.setIfInBounds_toArray]
                      try simp only [List.set_cons_succ, List.set_cons_zero]
                      refine anyK_step (i := 13) (by kernel_rfl) rfl (fun KP hK => ?_)
                      rw [if_pos (by rfl)]
                      refine wp_store_row 26 (.tmp 3) (.tmp 60) rfl pb #[.int .i64 RL, .slice aq m cq] rfl rfl 26 _ HP.out.row size_pg rfl (by simp [Value.oneCell']) ?_
                      replace HP := hid (HP.out.putRow (L2 := RL) HQ.out HLM.out HSM.out)
                      refine hK.out _ _ trivial (fun hH2 => ?_)
                      clear hK KP hHeld
                      have hHeld := hH2
                      clear hH2
                      try simp only [Act.put]
                      try simp only [List.setIfInBounds_toArray]
                      try simp only [List.set_cons_succ, List.set_cons_zero]
                      refine anyK_done (by kernel_rfl) ?_ _
                      clear hHeld lw
                      go_wp2_with fail
                      go_roundw
                      case rel => exact ⟨x - 1, RL, aq, m, cq, RS, by go_num, by omega, by omega, HP⟩
                      case measure => simp [intOf]; omega
    · obtain ⟨y0, y1⟩ := HP.out.box
      have r0 : wr.cell? ⟨w.heap.size, 0, none⟩ = some (.int .i64 0) := cell_of_row _ _ 0 _ _ _ HP.out.res
      have r1 : wr.cell? ⟨w.heap.size, 1, none⟩ = some (.slice none 0 0) := cell_of_row _ _ 1 _ _ _ HP.out.res
      have rf0 : wr.frozen? ⟨w.heap.size, 0, none⟩ = false := frozen_of_row _ _ _ _ _ HP.out.res
      have rf1 : wr.frozen? ⟨w.heap.size, 1, none⟩ = false := frozen_of_row _ _ _ _ _ HP.out.res
      have T1 := heap_setCell_same wr w.heap.size 0 _ 26 (.int .i64 L) HP.out.res
      have T2 := hid (heap_setCell_same _ w.heap.size 1 _ 26 (.slice a k c) T1)
      have gg := hid (grown_trans (grown_set7 wr w.heap.size 0 (.int .i64 L)) (grown_set7 _ w.heap.size 1 (.slice a k c)))
      clear T1
      go_wp2_with fail
      have hgl := HP.out.gl
      exact bodyPost_ret (results_cell_row Try.results43 _ _ w.heap.size 26 _ (0, 0) _ rfl T2.out Try.underlying26 rfl size_pg) rfl ⟨L, a, k, c, ss, rfl, (HP.out.own.beside HP.out.res (by decide) (by decide) gg.out).mono (Nat.le_refl _) gg.out.size, HP.out.len, HP.out.sm, HP.out.cur.other gg.out (fun r e => by cases e; exact hgl), grown_new HP.out.gr gg.out (fun r e => by cases e; exact Nat.le_refl _)⟩
end Go.Proofs.Ytioefplkadpfnaa
