/- The program's (Heap).changed with the change of withTuple. Conditions: the heap is one. -/
import Derived.Test.YtebhipicfgnajaaGreatMgc
namespace Go.Proofs.YtebhipicfgnajaaGreat
open Go.RowKit
set_option maxRecDepth 100000

set_option maxHeartbeats 12800000 in
theorem changed_tuple (Bs Bt Bn : Nat) {ad : Option Addr} {n : Nat} (cap : Nat) {ps : List Pg} {q : Nat} {RL : Int} {RS : List (List Int)} {m : Nat} {ok : Bool} {w : World} (h : ReadsG w ad ps) (hl : ps.length = n) (hok : okH ps = true) (hq : q ≤ n)
    (hCh : ∀ (a : Option Addr) (mm cc : Nat) (W : World), Below w.heap.size w W → ReadsS W a (ps.getD q pg0).2 → (ps.getD q pg0).2.length = mm → Calls Tryz.prog 138 #[.agg #[.int .i64 (ps.getD q pg0).1, .slice a mm cc], .pointer (some ⟨Bs, 0, none⟩), .pointer (some ⟨Bt, 0, none⟩), .pointer (some ⟨Bn, 0, none⟩)] W fun e W' => ∃ a' c', e = .returned (.tuple #[.agg #[.int .i64 RL, .slice a' m c'], .bool ok]) ∧ OwnP W' W.heap.size W'.heap.size (.slice a' m c') RS ∧ Below W.heap.size W W') :
    Calls Tryz.prog 96 #[.agg #[.slice ad n cap], .int .i64 (q : Int), .func (.func 138) #[] #[.pointer (some ⟨Bs, 0, none⟩), .pointer (some ⟨Bt, 0, none⟩), .pointer (some ⟨Bn, 0, none⟩)]] w fun e w' => AnsH (if ok = true then withH ps q (RL, RS) else []) ok w e w' := by
  have z1 := alloc_size w (.cells #[.slice ad n cap] 26)
  have z2 := alloc_size (w.alloc (.cells #[.slice ad n cap] 26)) (.cells #[.slice none 0 0] 26)
  have z3 := alloc_size ((w.alloc (.cells #[.slice ad n cap] 26)).alloc (.cells #[.slice none 0 0] 26)) (.cells #[.int .i64 0, .slice none 0 0] 97)
  have R0 : (((w.alloc (.cells #[.slice ad n cap] 26)).alloc (.cells #[.slice none 0 0] 26)).alloc (.cells #[.int .i64 0, .slice none 0 0] 97)).heap[w.heap.size]? = some (.cells #[.slice ad n cap] 26) := by
    rw [alloc_old _ _ _ (by omega), alloc_old _ _ _ (by omega)]; exact heap_alloc_new _ _
  have R1 : (((w.alloc (.cells #[.slice ad n cap] 26)).alloc (.cells #[.slice none 0 0] 26)).alloc (.cells #[.int .i64 0, .slice none 0 0] 97)).heap[w.heap.size + 1]? = some (.cells #[.slice none 0 0] 26) := by
    rw [alloc_old _ _ _ (by omega)]
    have := heap_alloc_new (w.alloc (.cells #[.slice ad n cap] 26)) (.cells #[.slice none 0 0] 26)
    rwa [z1] at this
  have R2 : (((w.alloc (.cells #[.slice ad n cap] 26)).alloc (.cells #[.slice none 0 0] 26)).alloc (.cells #[.int .i64 0, .slice none 0 0] 97)).heap[w.heap.size + 1 + 1]? = some (.cells #[.int .i64 0, .slice none 0 0] 97) := by
    have := heap_alloc_new ((w.alloc (.cells #[.slice ad n cap] 26)).alloc (.cells #[.slice none 0 0] 26)) (.cells #[.int .i64 0, .slice none 0 0] 97)
    rwa [z2, z1] at this
  have BW : Below w.heap.size w (((w.alloc (.cells #[.slice ad n cap] 26)).alloc (.cells #[.slice none 0 0] 26)).alloc (.cells #[.int .i64 0, .slice none 0 0] 97)) := (((Below.refl _ w).alloc (Nat.le_refl _) _).alloc (by omega) _).alloc (by omega) _
  have HZ := hid (show (((w.alloc (.cells #[.slice ad n cap] 26)).alloc (.cells #[.slice none 0 0] 26)).alloc (.cells #[.int .i64 0, .slice none 0 0] 97)).heap.size = w.heap.size + 3 by omega)
  have HX0 := hid R0
  have HX1 := hid R1
  have HX2 := hid R2
  have HBW := hid BW
  have HHR := hid h
  have HOK := hid hok
  have HCH := hid hCh
  have hn16 : n ≤ 16 := by have := (okH_of hok).1; omega
  have c0 : (((w.alloc (.cells #[.slice ad n cap] 26)).alloc (.cells #[.slice none 0 0] 26)).alloc (.cells #[.int .i64 0, .slice none 0 0] 97)).cell? ⟨w.heap.size, 0, none⟩ = some (.slice ad n cap) := cell_of_row _ _ 0 _ _ _ R0
  clear R0 R1 R2 BW z1 z2 z3 h hok hCh
  by_cases hqn : q < n
  · have hqn' : (q : Int) < (n : Int) := by omega
    have hq0 : (0 : Int) ≤ (q : Int) := by omega
    obtain ⟨b, off, pa, pc, rfl, hca0, hcx0, hr0, hmx⟩ := HHR.out.at (k := q) (by omega)
    have hbl := World.block_lt_of_cell? w _ hca0
    have hca := (HBW.out.cell (p := ⟨b, off + q * 2, none⟩) hbl).trans hca0
    have hcx := (HBW.out.cell (p := ⟨b, off + q * 2 + 1, none⟩) hbl).trans hcx0
    have HRP0 := hid hr0.rd
    generalize ps.getD q pg0 = p at *
    obtain ⟨A, ss⟩ := p
    obtain ⟨mm, hmm⟩ : ∃ m, ss.length = m := ⟨_, rfl⟩
    dsimp only at hca hcx HCH HRP0
    rw [hmm] at hcx
    have HMM := hid hmm
    clear hca0 hcx0 hr0 hmx hbl hmm
    go_enter Tryz.func96, Tryz.ntmps96
    have H2 := hid (show ((((w.alloc (.cells #[.slice (some ⟨b, off, none⟩) n cap] 26)).alloc (.cells #[.slice none 0 0] 26)).alloc (.cells #[.int .i64 0, .slice none 0 0] 97)).setRow (w.heap.size + 1 + 1) #[.int .i64 A, .slice pa mm pc]).heap[w.heap.size + 1 + 1]? = some (.cells #[.int .i64 A, .slice pa mm pc] 97) from setRow_heap _ _ _ _ _ _ HX2.out)
    go_wp2_with (first
      | (refine wpList_store_row rfl 97 (.tmp 8) (.tmp 20) rfl (w.heap.size + 1 + 1) #[.int .i64 A, .slice pa mm pc] rfl rfl 97 _ HX2.out ?a1 ?a2 ?a3 ?_)
      | (refine wpList_load_row rfl 97 (.tmp 8) rfl (w.heap.size + 1 + 1) rfl 97 _ (0, 0) _ H2.out Tryz.underlying97 rfl size_pg ?_))
    case a1 => simpa using size_pg
    try (case a2 => rfl)
    case a3 => simp [Value.oneCell']
    clear hca hcx c0
    have H0 := hid ((setRow_other _ _ _ #[.int .i64 A, .slice pa mm pc] (show w.heap.size ≠ w.heap.size + 1 + 1 by omega)).trans HX0.out)
    have H1 := hid ((setRow_other _ _ _ #[.int .i64 A, .slice pa mm pc] (show w.heap.size + 1 ≠ w.heap.size + 1 + 1 by omega)).trans HX1.out)
    have HB := hid (below_setRow HBW.out (show w.heap.size ≤ w.heap.size + 1 + 1 by omega) #[.int .i64 A, .slice pa mm pc])
    have HS := hid (show w.heap.size + 3 ≤ ((((w.alloc (.cells #[.slice (some ⟨b, off, none⟩) n cap] 26)).alloc (.cells #[.slice none 0 0] 26)).alloc (.cells #[.int .i64 0, .slice none 0 0] 97)).setRow (w.heap.size + 1 + 1) #[.int .i64 A, .slice pa mm pc]).heap.size by have := HZ.out; simp)
    have HRP := hid (HRP0.out.below HB.out (Nat.le_refl _))
    generalize (((w.alloc (.cells #[.slice (some ⟨b, off, none⟩) n cap] 26)).alloc (.cells #[.slice none 0 0] 26)).alloc (.cells #[.int .i64 0, .slice none 0 0] 97)).setRow (w.heap.size + 1 + 1) #[.int .i64 A, .slice pa mm pc] = W1 at *
    refine (HCH.out pa mm pc W1 HB.out HRP.out HMM.out).mono ?_
    rintro e W2 ⟨a', c', rfl, op, b2⟩
    have Q0 := hid ((b2.block w.heap.size (by have := HS.out; omega)).trans H0.out)
    have Q1 := hid ((b2.block (w.heap.size + 1) (by have := HS.out; omega)).trans H1.out)
    have HB2 := hid (HB.out.trans (b2.mono HB.out.size))
    have HR2 := hid (HHR.out.below HB2.out (Nat.le_refl _))
    have OP := hid op
    have HS2 := hid (show w.heap.size + 3 ≤ W1.heap.size ∧ W1.heap.size ≤ W2.heap.size from ⟨HS.out, b2.size⟩)
    clear b2 op H0 H1 H2 HRP
    cases ok with
    | false =>
      go_wp2_with (refine wpList_store_row rfl 26 (.tmp 6) (.tmp 29) rfl (w.heap.size + 1) #[.slice none 0 0] rfl rfl 26 _ (show (W2.alloc (.cells #[.int .i64 RL, .slice a' m c'] 97)).heap[w.heap.size + 1]? = some (.cells #[.slice none 0 0] 26) from (alloc_old _ _ _ (by have := HS2.out; omega)).trans Q1.out) ?s1 ?s2 ?s3 ?_)
      case s1 => simpa using size_hp
      try (case s2 => rfl)
      case s3 => simp [Value.oneCell']
      have hss := HS2.out
      refine bodyPost_ret (results_cell_tmp Tryz.results96 _ _ (w.heap.size + 1) 26 #[.slice none 0 0] (0, 0) _ rfl (setRow_heap _ _ _ _ _ _ ((alloc_old _ _ _ (by omega)).trans Q1.out)) Tryz.underlying26 rfl size_hp) rfl ?_
      exact AnsH.zero rfl (below_setRow (HB2.out.trans ((Below.alloc1 W2 _).mono HB2.out.size)) (by omega) _)
    | true =>
      have bX := Below.alloc1 W2 (.cells #[.int .i64 RL, .slice a' m c'] 97)
      have zX := alloc_size W2 (.cells #[.int .i64 RL, .slice a' m c'] 97)
      have rX := heap_alloc_new W2 (.cells #[.int .i64 RL, .slice a' m c'] 97)
      have hss := HS2.out
      have T0 := hid ((bX.block w.heap.size (by omega)).trans Q0.out)
      have T1 := hid ((bX.block (w.heap.size + 1) (by omega)).trans Q1.out)
      have HB3 := hid (HB2.out.trans (bX.mono HB2.out.size))
      have HR3 := hid (HR2.out.below bX (Nat.le_refl _))
      have OP3 := hid ((op_alloc OP.out (.cells #[.int .i64 RL, .slice a' m c'] 97)).mono (lo' := w.heap.size) (hi' := (W2.alloc (.cells #[.int .i64 RL, .slice a' m c'] 97)).heap.size) (by omega) bX.size)
      have t0 : (W2.alloc (.cells #[.int .i64 RL, .slice a' m c'] 97)).cell? ⟨w.heap.size, 0, none⟩ = some (.slice (some ⟨b, off, none⟩) n cap) := cell_of_row _ _ 0 _ _ _ T0.out
      have t2 : (W2.alloc (.cells #[.int .i64 RL, .slice a' m c'] 97)).cell? ⟨W2.heap.size, 0, none⟩ = some (.int .i64 RL) := cell_of_row _ _ 0 _ _ _ rX
      have t3 : (W2.alloc (.cells #[.int .i64 RL, .slice a' m c'] 97)).cell? ⟨W2.heap.size, 1, none⟩ = some (.slice a' m c') := cell_of_row _ _ 1 _ _ _ rX
      have HC := hid (impl_Hwith cap HR3.out hl HOK.out hq HB3.out.size OP3.out (RL := RL))
      clear bX rX Q0 Q1
      go_wp2_with fail
      refine HC.out.mono ?_
      rintro e W5 ⟨v5, c5, rfl, og, b5⟩
      have U1 := hid ((b5.block (w.heap.size + 1) (by omega)).trans T1.out)
      have HB5 := hid (HB3.out.trans (b5.mono HB3.out.size))
      have OG := hid og
      clear b5 og HC t0 t2 t3
      obtain ⟨N, hN⟩ : ∃ N, (withH ps q (RL, RS)).length = N := ⟨_, rfl⟩
      rw [hN] at OG ⊢
      have HN := hid hN
      clear hN
      go_wp2_with (refine wpList_store_row rfl 26 (.tmp 6) (.tmp 33) rfl (w.heap.size + 1) #[.slice v5 N c5] rfl rfl 26 _ U1.out ?u1 ?u2 ?u3 ?_)
      case u1 => simpa using size_hp
      try (case u2 => rfl)
      case u3 => simp [Value.oneCell']
      refine bodyPost_ret (results_cell_tmp Tryz.results96 _ _ (w.heap.size + 1) 26 #[.slice v5 N c5] (0, 0) _ rfl (setRow_heap _ _ _ _ _ _ U1.out) Tryz.underlying26 rfl size_hp) rfl ?_
      have hoB : W5.ownsRow 0 26 1 (.slice (some ⟨w.heap.size + 1, 0, none⟩) 1 1) 1 [.slice none 0 0] := ⟨rfl, .inr ⟨w.heap.size + 1, 1, #[.slice none 0 0], rfl, Nat.zero_le _, U1.out, Nat.le_refl _, by unfold maxLen; omega, rfl, rfl⟩⟩
      exact ⟨v5, c5, by rw [HN.out]; rfl, by rw [HN.out]; exact (OG.out.aside hoB (by decide) (by decide) (by decide) (grown_setRow10 _ _ _)).mono (Nat.le_refl _) (by simp), below_setRow HB5.out (by omega) _⟩
  · have hqn' : ¬ (q : Int) < (n : Int) := by omega
    have hpg : ps.getD q pg0 = pg0 := by rw [List.getD_eq_getElem?_getD, List.getElem?_eq_none (by omega)]; rfl
    rw [hpg] at HCH
    obtain ⟨A, hA⟩ : ∃ A : Int, A = 0 := ⟨_, rfl⟩
    have hpp : pg0 = (A, []) := by rw [hA]; rfl
    rw [hpp] at HCH
    obtain ⟨ss, hss⟩ : ∃ ss : List (List Int), ss = [] := ⟨_, rfl⟩
    rw [← hss] at HCH
    obtain ⟨pa, hpa⟩ : ∃ pa : Option Addr, pa = none := ⟨_, rfl⟩
    obtain ⟨mm, hmm⟩ : ∃ mm : Nat, mm = 0 := ⟨_, rfl⟩
    obtain ⟨pc, hpc⟩ : ∃ pc : Nat, pc = 0 := ⟨_, rfl⟩
    dsimp only at HCH
    have HMM := hid (show ss.length = mm by rw [hss, hmm]; rfl)
    have H0 := HX0
    have H1 := HX1
    have H2 := hid (show (((w.alloc (.cells #[.slice ad n cap] 26)).alloc (.cells #[.slice none 0 0] 26)).alloc (.cells #[.int .i64 0, .slice none 0 0] 97)).heap[w.heap.size + 1 + 1]? = some (.cells #[.int .i64 A, .slice pa mm pc] 97) by rw [hA, hpa, hmm, hpc]; exact HX2.out)
    have HB := HBW
    have HS := hid (show w.heap.size + 3 ≤ (((w.alloc (.cells #[.slice ad n cap] 26)).alloc (.cells #[.slice none 0 0] 26)).alloc (.cells #[.int .i64 0, .slice none 0 0] 97)).heap.size by have := HZ.out; omega)
    have HRP := hid (show ReadsS (((w.alloc (.cells #[.slice ad n cap] 26)).alloc (.cells #[.slice none 0 0] 26)).alloc (.cells #[.int .i64 0, .slice none 0 0] 97)) pa ss by rw [hss]; exact ⟨.inl rfl⟩)
    clear hpg hpp hss hA hpa hmm hpc
    go_enter Tryz.func96, Tryz.ntmps96
    go_wp2_with (first
      | (refine wpList_load_row rfl 97 (.tmp 8) rfl (w.heap.size + 1 + 1) rfl 97 _ (0, 0) _ H2.out Tryz.underlying97 rfl size_pg ?_))
    clear c0
    generalize ((w.alloc (.cells #[.slice ad n cap] 26)).alloc (.cells #[.slice none 0 0] 26)).alloc (.cells #[.int .i64 0, .slice none 0 0] 97) = W1 at *
    refine (HCH.out pa mm pc W1 HB.out HRP.out HMM.out).mono ?_
    rintro e W2 ⟨a', c', rfl, op, b2⟩
    have Q0 := hid ((b2.block w.heap.size (by have := HS.out; omega)).trans H0.out)
    have Q1 := hid ((b2.block (w.heap.size + 1) (by have := HS.out; omega)).trans H1.out)
    have HB2 := hid (HB.out.trans (b2.mono HB.out.size))
    have HR2 := hid (HHR.out.below HB2.out (Nat.le_refl _))
    have OP := hid op
    have HS2 := hid (show w.heap.size + 3 ≤ W1.heap.size ∧ W1.heap.size ≤ W2.heap.size from ⟨HS.out, b2.size⟩)
    clear b2 op H0 H1 H2 HRP
    cases ok with
    | false =>
      go_wp2_with (refine wpList_store_row rfl 26 (.tmp 6) (.tmp 29) rfl (w.heap.size + 1) #[.slice none 0 0] rfl rfl 26 _ (show (W2.alloc (.cells #[.int .i64 RL, .slice a' m c'] 97)).heap[w.heap.size + 1]? = some (.cells #[.slice none 0 0] 26) from (alloc_old _ _ _ (by have := HS2.out; omega)).trans Q1.out) ?s1 ?s2 ?s3 ?_)
      case s1 => simpa using size_hp
      try (case s2 => rfl)
      case s3 => simp [Value.oneCell']
      have hss := HS2.out
      refine bodyPost_ret (results_cell_tmp Tryz.results96 _ _ (w.heap.size + 1) 26 #[.slice none 0 0] (0, 0) _ rfl (setRow_heap _ _ _ _ _ _ ((alloc_old _ _ _ (by omega)).trans Q1.out)) Tryz.underlying26 rfl size_hp) rfl ?_
      exact AnsH.zero rfl (below_setRow (HB2.out.trans ((Below.alloc1 W2 _).mono HB2.out.size)) (by omega) _)
    | true =>
      have bX := Below.alloc1 W2 (.cells #[.int .i64 RL, .slice a' m c'] 97)
      have zX := alloc_size W2 (.cells #[.int .i64 RL, .slice a' m c'] 97)
      have rX := heap_alloc_new W2 (.cells #[.int .i64 RL, .slice a' m c'] 97)
      have hss := HS2.out
      have T0 := hid ((bX.block w.heap.size (by omega)).trans Q0.out)
      have T1 := hid ((bX.block (w.heap.size + 1) (by omega)).trans Q1.out)
      have HB3 := hid (HB2.out.trans (bX.mono HB2.out.size))
      have HR3 := hid (HR2.out.below bX (Nat.le_refl _))
      have OP3 := hid ((op_alloc OP.out (.cells #[.int .i64 RL, .slice a' m c'] 97)).mono (lo' := w.heap.size) (hi' := (W2.alloc (.cells #[.int .i64 RL, .slice a' m c'] 97)).heap.size) (by omega) bX.size)
      have t0 : (W2.alloc (.cells #[.int .i64 RL, .slice a' m c'] 97)).cell? ⟨w.heap.size, 0, none⟩ = some (.slice ad n cap) := cell_of_row _ _ 0 _ _ _ T0.out
      have t2 : (W2.alloc (.cells #[.int .i64 RL, .slice a' m c'] 97)).cell? ⟨W2.heap.size, 0, none⟩ = some (.int .i64 RL) := cell_of_row _ _ 0 _ _ _ rX
      have t3 : (W2.alloc (.cells #[.int .i64 RL, .slice a' m c'] 97)).cell? ⟨W2.heap.size, 1, none⟩ = some (.slice a' m c') := cell_of_row _ _ 1 _ _ _ rX
      have HC := hid (impl_Hwith cap HR3.out hl HOK.out hq HB3.out.size OP3.out (RL := RL))
      clear bX rX Q0 Q1
      go_wp2_with fail
      refine HC.out.mono ?_
      rintro e W5 ⟨v5, c5, rfl, og, b5⟩
      have U1 := hid ((b5.block (w.heap.size + 1) (by omega)).trans T1.out)
      have HB5 := hid (HB3.out.trans (b5.mono HB3.out.size))
      have OG := hid og
      clear b5 og HC t0 t2 t3
      obtain ⟨N, hN⟩ : ∃ N, (withH ps q (RL, RS)).length = N := ⟨_, rfl⟩
      rw [hN] at OG ⊢
      have HN := hid hN
      clear hN
      go_wp2_with (refine wpList_store_row rfl 26 (.tmp 6) (.tmp 33) rfl (w.heap.size + 1) #[.slice v5 N c5] rfl rfl 26 _ U1.out ?u1 ?u2 ?u3 ?_)
      case u1 => simpa using size_hp
      try (case u2 => rfl)
      case u3 => simp [Value.oneCell']
      refine bodyPost_ret (results_cell_tmp Tryz.results96 _ _ (w.heap.size + 1) 26 #[.slice v5 N c5] (0, 0) _ rfl (setRow_heap _ _ _ _ _ _ U1.out) Tryz.underlying26 rfl size_hp) rfl ?_
      have hoB : W5.ownsRow 0 26 1 (.slice (some ⟨w.heap.size + 1, 0, none⟩) 1 1) 1 [.slice none 0 0] := ⟨rfl, .inr ⟨w.heap.size + 1, 1, #[.slice none 0 0], rfl, Nat.zero_le _, U1.out, Nat.le_refl _, by unfold maxLen; omega, rfl, rfl⟩⟩
      exact ⟨v5, c5, by rw [HN.out]; rfl, by rw [HN.out]; exact (OG.out.aside hoB (by decide) (by decide) (by decide) (grown_setRow10 _ _ _)).mono (Nat.le_refl _) (by simp), below_setRow HB5.out (by omega) _⟩
end Go.Proofs.YtebhipicfgnajaaGreat
