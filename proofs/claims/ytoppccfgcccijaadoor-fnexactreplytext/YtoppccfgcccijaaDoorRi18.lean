/- The specification's ReplyText. Conditions: texts and rows of at most 2^20. -/
import Derived.Test.YtoppccfgcccijaaDoorRh18
import Derived.Test.YtoppccfgcccijaaDoorRg18
namespace Go.Proofs.YtoppccfgcccijaaDoor
open Go.RowKit
set_option maxRecDepth 100000

theorem spec_in18 (n lo hi : Int) (w : World) : Calls Tryd.prog 41 #[.int .i64 n, .int .i64 lo, .int .i64 hi] w fun e w' => e = .returned (.bool (decide (lo ≤ n ∧ n ≤ hi))) ∧ w' = w := by
  by_cases h1 : lo ≤ n
  · by_cases h2 : n ≤ hi
    · rw [decide_eq_true ⟨h1, h2⟩]
      go_enter Tryd.func41, Tryd.ntmps41
      go_wp2
      go_ret
      exact ⟨rfl, rfl⟩
    · rw [decide_eq_false (fun q => h2 q.2)]
      go_enter Tryd.func41, Tryd.ntmps41
      go_wp2
      go_ret
      exact ⟨rfl, rfl⟩
  · rw [decide_eq_false (fun q => h1 q.1)]
    go_enter Tryd.func41, Tryd.ntmps41
    go_wp2
    go_ret
    exact ⟨rfl, rfl⟩
theorem LineB.len {B q : Nat} {w : World} {v : Value} {L : List Int} (h : LineB B q w v L) : ∃ a c, v = .slice a L.length c := by
  rcases h with ⟨h, _⟩ | ⟨g0, hv, _⟩
  · exact own_sl18 h
  · exact ⟨_, _, hv⟩
theorem WordB.lower {q q' : Nat} {w : World} {v : Value} {M : List Int} (h : WordB q w v M) (hq : q' ≤ q) : WordB q' w v M := by
  obtain ⟨g, o, c, hv, h0, h1, h2⟩ := h.ex
  exact ⟨⟨g, o, c, hv, h0, Nat.le_trans hq h1, h2⟩⟩
set_option maxHeartbeats 12800000 in
theorem spec_ReplyText (se kd co nn K N : Int) (f : Nat) {ad : Option Addr} {n : Nat} (c : Nat) {ar : Option Addr} {m : Nat} (cr : Nat) (tot : Nat) {zs : List Int} {es : List Im} {w : World} (r1 : Reads w ad n zs) (r2 : ReadsM w ar es) (hl : es.length = m * 2) (hn : n ≤ 2097152) (hm : m ≤ 1048576) (hz : ∀ j, (es.getD j im0).Z.length ≤ 2097152) (hN : -9223372036854775808 ≤ N ∧ N ≤ 9223372036854775807) (hse : -9223372036854775808 ≤ se ∧ se ≤ 9223372036854775807) (hkd : -9223372036854775808 ≤ kd ∧ kd ≤ 9223372036854775807) (hnn : -9223372036854775808 ≤ nn ∧ nn ≤ 9223372036854775807) (hNs : ∀ j, -9223372036854775808 ≤ (es.getD j im0).N ∧ (es.getD j im0).N ≤ 9223372036854775807) (hf : f < 18446744073709551616) (htot : tot < 18446744073709551616) :
    Calls Tryd.prog 20 #[.agg #[.int .i64 se, .int .i64 kd, .int .i64 co, .int .i64 nn, .int .i64 K, .int .i64 N, .float .f64 f, .slice ad n c, .slice ar m cr, .float .f64 tot]] w fun e w' => ∃ v, e = .returned v ∧ w'.ownsRow w.heap.size 5 1 v (txtR se kd co nn K N f zs tot es m).length (bys (txtR se kd co nn K N f zs tot es m)) ∧ Below w.heap.size w w' := by
  obtain ⟨i0, hi, hz0, hz1, hz2⟩ := info_parts Tryd.info5
  have hst1 := fun w a m => run_store Tryd.prog w a (.float .f64 f) m rfl
  have hst2 := fun w a m => run_store Tryd.prog w a (.float .f64 tot) m rfl
  have hB := Below.alloc1 w (.cells #[.int .i64 se, .int .i64 kd, .int .i64 co, .int .i64 nn, .int .i64 K, .int .i64 N, .float .f64 f, .slice ad n c, .slice ar m cr, .float .f64 tot] 46)
  have HB0 := hid hB
  have HR0 := hid (heap_alloc_new w (.cells #[.int .i64 se, .int .i64 kd, .int .i64 co, .int .i64 nn, .int .i64 K, .int .i64 N, .float .f64 f, .slice ad n c, .slice ar m cr, .float .f64 tot] 46))
  have HA0 := hid (r1.below hB (Nat.le_refl _))
  have HM0 := hid (r2.below hB (Nat.le_refl _))
  have HZ0 := hid (show w.heap.size + 1 ≤ _ from Nat.le_of_eq (alloc_size w (.cells #[.int .i64 se, .int .i64 kd, .int .i64 co, .int .i64 nn, .int .i64 K, .int .i64 N, .float .f64 f, .slice ad n c, .slice ar m cr, .float .f64 tot] 46)).symm)
  have HL := hid hl
  have HZs := hid hz
  have HNs := hid hNs
  clear hB r1 r2 hl hz hNs
  obtain ⟨U0, hU⟩ : ∃ U, w.alloc (.cells #[.int .i64 se, .int .i64 kd, .int .i64 co, .int .i64 nn, .int .i64 K, .int .i64 N, .float .f64 f, .slice ad n c, .slice ar m cr, .float .f64 tot] 46) = U := ⟨_, rfl⟩
  have hcv := Go.Lib.run_convert_bytes_const (P := Tryd.prog) U0 23 5 #[.int .u8 63, .int .u8 63] 2 2 Tryd.underlying23 Tryd.underlying5
  rw [hU] at HB0 HR0 HA0 HM0 HZ0
  have HU := hid hU
  have hbox : (w.alloc (.cells #[.int .i64 se, .int .i64 kd, .int .i64 co, .int .i64 nn, .int .i64 K, .int .i64 N, .float .f64 f, .slice ad n c, .slice ar m cr, .float .f64 tot] 46)) = U0 := hU
  clear hU
  go_enter Tryd.func20, Tryd.ntmps20
  have HLc := hid (show LineB U0.heap.size (U0.heap.size + 1) (U0.alloc (.cells #[.int .u8 63, .int .u8 63] 5 (2, 3))) (.slice (some ⟨U0.heap.size, 0, none⟩) 2 2) [63, 63] from .inr ⟨U0.heap.size, rfl, by omega, fun j u hu => World.news_of_block (heap_alloc_new U0 (.cells #[.int .u8 63, .int .u8 63] 5 (2, 3))) j u hu⟩)
  have HF0 := hid (Below.alloc1 U0 (.cells #[.int .u8 63, .int .u8 63] 5 (2, 3)))
  have HFz := hid (alloc_size U0 (.cells #[.int .u8 63, .int .u8 63] 5 (2, 3)))
  have HRow := hid (fun W (b : Below U0.heap.size U0 W) => (b.block w.heap.size (by have := HZ0.out; omega)).trans HR0.out)
  have k2 : (U0.alloc (.cells #[.int .u8 63, .int .u8 63] 5 (2, 3))).cell? ⟨w.heap.size, 2, none⟩ = some (.int .i64 co) := by rw [cell_of_row _ _ _ _ _ _ (HRow.out _ HF0.out)]; rfl
  go_wp2_with fail
  clear k2 hcv hbox
  refine (spec_in18 co 0 99 _).mono ?_
  rintro e x00 ⟨rfl, ex⟩
  subst ex
  obtain ⟨x0, hx0⟩ : ∃ X, U0.alloc (.cells #[.int .u8 63, .int .u8 63] 5 (2, 3)) = X := ⟨_, rfl⟩
  rw [hx0] at HLc HF0 HFz
  simp only [hx0]
  clear hx0
  by_cases hco : 0 ≤ co ∧ co ≤ 99
  · obtain ⟨h0, h1⟩ := hco
    rw [decide_eq_true (show (0 : Int) ≤ co ∧ co ≤ 99 from ⟨h0, h1⟩)]
    have HX0 := hid (show codeW co = [48 + co / 10, 48 + co % 10] by unfold codeW; rw [if_pos ⟨h0, h1⟩])
    have k2 : x0.cell? ⟨w.heap.size, 2, none⟩ = some (.int .i64 co) := by rw [cell_of_row _ _ _ _ _ _ (HRow.out _ HF0.out)]; rfl
    have HNn := hid (heap_alloc_new x0 (.cells #[.int .u8 (48 + co / 10), .int .u8 (48 + co % 10)] 5))
    have HF := hid (HF0.out.trans ((Below.alloc1 x0 (.cells #[.int .u8 (48 + co / 10), .int .u8 (48 + co % 10)] 5)).mono HF0.out.size))
    have HOn := hid (show (x0.alloc (.cells #[.int .u8 (48 + co / 10), .int .u8 (48 + co % 10)] 5)).ownsRow U0.heap.size 5 1 (.slice (some ⟨x0.heap.size, 0, none⟩) 2 2) 2 (bys [48 + co / 10, 48 + co % 10]) from ⟨rfl, .inr ⟨x0.heap.size, 2, _, rfl, HF0.out.size, HNn.out, Nat.le_refl _, by unfold maxLen; omega, rfl, rfl⟩⟩)
    obtain ⟨x1, hx1⟩ : ∃ X, x0.alloc (.cells #[.int .u8 (48 + co / 10), .int .u8 (48 + co % 10)] 5) = X := ⟨_, rfl⟩
    rw [hx1] at HF HOn
    obtain ⟨LX0, hLX⟩ : ∃ X : List Int, X = [48 + co / 10, 48 + co % 10] := ⟨_, rfl⟩
    rw [← hLX] at HX0 HOn
    have hlx : LX0.length ≤ 2 := by rw [hLX]; simp
    have hl2 : LX0.length = 2 := by rw [hLX]; rfl
    have HLine := hid (show LineB U0.heap.size x1.heap.size x1 (.slice (some ⟨x0.heap.size, 0, none⟩) 2 2) LX0 from LineB.own (by rw [hl2]; exact HOn.out))
    have hxz : x1.heap.size ≤ x1.heap.size := Nat.le_refl _
    clear hLX HLc HF0 HFz HNn HOn
    have k0 : x1.cell? ⟨w.heap.size, 0, none⟩ = some (.int .i64 se) := by rw [cell_of_row _ _ _ _ _ _ (HRow.out _ HF.out)]; rfl
    go_wp2_with fail
    clear k0 k2 hx1
    refine (spec_l18digits se x1 hse).mono ?_
    rintro e y0 ⟨u, rfl, nb, b⟩
    have hml := decI_len se
    have HWd := hid (nb.word.lower hxz)
    have HLy := hid (HLine.out.below b)
    replace HF := hid (HF.out.trans (b.mono HF.out.size))
    clear nb b
    go_wp2_with fail
    refine (spec_l18word HLy.out HF.out.size HWd.out (by omega)).mono ?_
    rintro e z0 ⟨v, rfl, o, b⟩
    replace HF := hid (HF.out.trans b)
    clear b HLy HWd
    obtain ⟨aL0, cL0, rfl⟩ := own_sl18 o
    have HEq0 := hid (show LX0 ++ 32 :: decI se = LX0 ++ 32 :: decI se from rfl)
    have hln : (LX0 ++ 32 :: decI se).length ≤ 27 := by rw [List.length_append, List.length_cons]; omega
    clear hml hlx
    obtain ⟨LX1, hLX⟩ : ∃ X, LX0 ++ 32 :: decI se = X := ⟨_, rfl⟩
    rw [hLX] at o hln
    simp only [hLX]
    have HX1 := hid hLX
    have hlx := hln
    clear hLX hln
    replace HLine := hid (LineB.own o)
    have HOw := hid o
    clear o
    have k1 : z0.cell? ⟨w.heap.size, 1, none⟩ = some (.int .i64 kd) := by rw [cell_of_row _ _ _ _ _ _ (HRow.out _ HF.out)]; rfl
    go_wp2_with fail
    clear k1
    refine (spec_l18digits kd z0 hkd).mono ?_
    rintro e y1 ⟨u, rfl, nb, b⟩
    have hml := decI_len kd
    have HWd := hid (nb.word.lower (Nat.le_refl _))
    have HLy := hid (HLine.out.below b)
    replace HF := hid (HF.out.trans (b.mono HF.out.size))
    clear nb b
    go_wp2_with fail
    refine (spec_l18word HLy.out HF.out.size HWd.out (by omega)).mono ?_
    rintro e z1 ⟨v, rfl, o, b⟩
    replace HF := hid (HF.out.trans b)
    clear b HLy HWd
    obtain ⟨aL1, cL1, rfl⟩ := own_sl18 o
    have HEq1 := hid (show LX1 ++ 32 :: decI kd = LX1 ++ 32 :: decI kd from rfl)
    have hln : (LX1 ++ 32 :: decI kd).length ≤ 52 := by rw [List.length_append, List.length_cons]; omega
    clear hml hlx
    obtain ⟨LX2, hLX⟩ : ∃ X, LX1 ++ 32 :: decI kd = X := ⟨_, rfl⟩
    rw [hLX] at o hln
    simp only [hLX]
    have HX2 := hid hLX
    have hlx := hln
    clear hLX hln
    replace HLine := hid (LineB.own o)
    have HOw := hid o
    clear o
    have k3 : z1.cell? ⟨w.heap.size, 3, none⟩ = some (.int .i64 nn) := by rw [cell_of_row _ _ _ _ _ _ (HRow.out _ HF.out)]; rfl
    go_wp2_with fail
    clear k3
    refine (spec_l18digits nn z1 hnn).mono ?_
    rintro e y2 ⟨u, rfl, nb, b⟩
    have hml := decI_len nn
    have HWd := hid (nb.word.lower (Nat.le_refl _))
    have HLy := hid (HLine.out.below b)
    replace HF := hid (HF.out.trans (b.mono HF.out.size))
    clear nb b
    go_wp2_with fail
    refine (spec_l18word HLy.out HF.out.size HWd.out (by omega)).mono ?_
    rintro e z2 ⟨v, rfl, o, b⟩
    replace HF := hid (HF.out.trans b)
    clear b HLy HWd
    obtain ⟨aL2, cL2, rfl⟩ := own_sl18 o
    have HEq2 := hid (show LX2 ++ 32 :: decI nn = LX2 ++ 32 :: decI nn from rfl)
    have hln : (LX2 ++ 32 :: decI nn).length ≤ 77 := by rw [List.length_append, List.length_cons]; omega
    clear hml hlx
    obtain ⟨LX3, hLX⟩ : ∃ X, LX2 ++ 32 :: decI nn = X := ⟨_, rfl⟩
    rw [hLX] at o hln
    simp only [hLX]
    have HX3 := hid hLX
    have hlx := hln
    clear hLX hln
    replace HLine := hid (LineB.own o)
    have HOw := hid o
    clear o
    have k4 : z2.cell? ⟨w.heap.size, 4, none⟩ = some (.int .i64 K) := by rw [cell_of_row _ _ _ _ _ _ (HRow.out _ HF.out)]; rfl
    have k5 : z2.cell? ⟨w.heap.size, 5, none⟩ = some (.int .i64 N) := by rw [cell_of_row _ _ _ _ _ _ (HRow.out _ HF.out)]; rfl
    have k6 : z2.cell? ⟨w.heap.size, 6, none⟩ = some (.float .f64 f) := by rw [cell_of_row _ _ _ _ _ _ (HRow.out _ HF.out)]; rfl
    have k7 : z2.cell? ⟨w.heap.size, 7, none⟩ = some (.slice ad n c) := by rw [cell_of_row _ _ _ _ _ _ (HRow.out _ HF.out)]; rfl
    go_wp2_with fail
    clear k4 k5 k6 k7
    refine (spec_l18item K N f c (HA0.out.below HF.out (Nat.le_refl _)) hn hN hf).mono ?_
    rintro e y3 ⟨u, rfl, nb, b⟩
    have hml := itW_len K N f zs
    have HWd := hid (nb.word.lower (Nat.le_refl _))
    have HLy := hid (HLine.out.below b)
    replace HF := hid (HF.out.trans (b.mono HF.out.size))
    clear nb b
    go_wp2_with fail
    refine (spec_l18word HLy.out HF.out.size HWd.out (by omega)).mono ?_
    rintro e z3 ⟨v, rfl, o, b⟩
    replace HF := hid (HF.out.trans b)
    clear b HLy HWd
    obtain ⟨aL3, cL3, rfl⟩ := own_sl18 o
    have HEq3 := hid (show LX3 ++ 32 :: itW K N f zs = LX3 ++ 32 :: itW K N f zs from rfl)
    have hln : (LX3 ++ 32 :: itW K N f zs).length ≤ 159 := by rw [List.length_append, List.length_cons]; omega
    clear hml hlx
    obtain ⟨LX4, hLX⟩ : ∃ X, LX3 ++ 32 :: itW K N f zs = X := ⟨_, rfl⟩
    rw [hLX] at o hln
    simp only [hLX]
    have HX4 := hid hLX
    have hlx := hln
    clear hLX hln
    replace HLine := hid (LineB.own o)
    have HOw := hid o
    clear o
    have k9 : z3.cell? ⟨w.heap.size, 9, none⟩ = some (.float .f64 tot) := by rw [cell_of_row _ _ _ _ _ _ (HRow.out _ HF.out)]; rfl
    have HFx := hid HF.out
    have hl4 : z3.heap.size ≤ z3.heap.size := Nat.le_refl _
    go_wp2_with (first
      | (go_at_call 30; refine (spec_FloatBits tot htot _).mono ?_; rintro e w1 ⟨rfl, e1'⟩; subst w1)
      | (go_at_call 29; refine (spec_l3high (fbits tot) (fbits_lt tot htot) _).mono ?_; rintro e w3 ⟨v3, rfl, o3, b3⟩; obtain ⟨a3, c3, rfl, r3, _⟩ := Reads.own o3 (fun i => hi8_bd (fbits tot) 8 i); have HB3 := hid b3; have HR3 := hid r3; clear o3 b3 r3))
    clear k9 hl4
    refine (spec_l18hex c3 HR3.out (by omega)).mono ?_
    rintro e y4 ⟨u, rfl, o4, hv0, b4⟩
    have b := HB3.out.trans (b4.mono HB3.out.size)
    have hml : (hexB (hi8 (fbits tot) 8)).length = 16 := by rw [hexB_len, hi8_length]
    have nb := NewB.lower (NewB.own o4 (by omega)) HB3.out.size
    clear o4 hv0 b4
    have HWd := hid (nb.word.lower (Nat.le_refl _))
    have HLy := hid (HLine.out.below b)
    replace HF := hid (HF.out.trans (b.mono HF.out.size))
    clear nb b
    go_wp2_with fail
    refine (spec_l18word HLy.out HF.out.size HWd.out (by omega)).mono ?_
    rintro e z4 ⟨v, rfl, o, b⟩
    replace HF := hid (HF.out.trans b)
    clear b HLy HWd
    obtain ⟨aL4, cL4, rfl⟩ := own_sl18 o
    have HEq4 := hid (show LX4 ++ 32 :: hexB (hi8 (fbits tot) 8) = LX4 ++ 32 :: hexB (hi8 (fbits tot) 8) from rfl)
    have hln : (LX4 ++ 32 :: hexB (hi8 (fbits tot) 8)).length ≤ 176 := by rw [List.length_append, List.length_cons]; omega
    clear hml hlx
    obtain ⟨LX5, hLX⟩ : ∃ X, LX4 ++ 32 :: hexB (hi8 (fbits tot) 8) = X := ⟨_, rfl⟩
    rw [hLX] at o hln
    simp only [hLX]
    have HX5 := hid hLX
    have hlx := hln
    clear hLX hln
    replace HLine := hid (LineB.own o)
    have HOw := hid o
    clear o
    have HJ := hid (show joinW (headW se kd co nn K N f zs tot) = LX5 by rw [← HX5.out, ← HX4.out, ← HX3.out, ← HX2.out, ← HX1.out, ← HX0.out]; simp [headW, joinW, tailW])
    clear HLine HX0 HX1 HX2 HX3 HX4 HX5 HEq0 HEq1 HEq2 HEq3 HEq4
    go_wp2_with fail
    go_loopw [3, 4] (fun v s wr => ∃ k : Nat, k ≤ m ∧ s = .int .i64 (k : Int) ∧ Hid (wr.ownsRow U0.heap.size 5 1 v (LX5 ++ tailW (rowsW es k)).length (bys (LX5 ++ tailW (rowsW es k)))) ∧ Hid (Below U0.heap.size U0 wr)) (fun _ s _ => m - (intOf s).toNat)
    case atStart => exact ⟨0, Nat.zero_le _, rfl, hid (by simpa [rowsW, tailW] using HOw.out), HF⟩
    case round =>
      clear HF
      obtain ⟨k, hk, rfl, HOk, HF⟩ := hrel
      have hsz := HF.out.size
      have q8 : wr.cell? ⟨w.heap.size, 8, none⟩ = some (.slice ar m cr) := by rw [cell_of_row _ _ _ _ _ _ (HRow.out _ HF.out)]; rfl
      by_cases hlt : k < m
      · have hlt' : (k : Int) < (m : Int) := by omega
        have hk0 : (0 : Int) ≤ (k : Int) := by omega
        have hM := HM0.out.below HF.out (Nat.le_refl _)
        obtain ⟨b, off, a1, d1, rfl, bx1, q1, _, _, _⟩ := hM.at (k := k * 2) (by have := HL.out; omega)
        obtain ⟨b', off', a2, d2, e2, bx2, q2, _, _, _⟩ := hM.at (k := k * 2 + 1) (by have := HL.out; omega)
        obtain ⟨hbb, hoo⟩ : b = b' ∧ off = off' := by simpa using e2
        subst hbb hoo
        rw [show off + k * 2 * 4 = off + k * 8 by omega] at bx1
        rw [show off + (k * 2 + 1) * 4 = off + k * 8 + 4 by omega] at bx2
        have f1 := HM0.out.fl (k * 2)
        have f2 := HM0.out.fl (k * 2 + 1)
        have z1 := HZs.out (k * 2)
        have z2 := HZs.out (k * 2 + 1)
        have y1 := HNs.out (k * 2)
        have y2 := HNs.out (k * 2 + 1)
        have HRw := hid (show rowW es k = imW (es.getD (k * 2) im0) ++ 61 :: imW (es.getD (k * 2 + 1) im0) from rfl)
        have HSc := hid (rowsW_succ es k)
        have HTl := hid (tailW_rows_len es k)
        generalize rowW es k = RW at *
        generalize es.getD (k * 2) im0 = E1 at *
        obtain ⟨E2, hE2⟩ : ∃ E, es.getD (k * 2 + 1) im0 = E := ⟨_, rfl⟩
        have HE2p := hid hE2
        rw [hE2] at bx2 q2 f2 z2 y2 HRw
        clear hE2
        obtain ⟨K1, N1, F1, Z1⟩ := E1
        obtain ⟨K2, N2, F2, Z2⟩ := E2
        have HE2 := HE2p
        clear HE2p
        simp only at bx1 bx2 q1 q2 f1 f2 z1 z2 y1 y2
        obtain ⟨m1, hm1⟩ : ∃ m, Z1.length = m := ⟨_, rfl⟩
        obtain ⟨m2, hm2⟩ : ∃ m, Z2.length = m := ⟨_, rfl⟩
        rw [hm1] at bx1 q1 z1
        rw [hm2] at bx2 q2 z2
        have HI1 := hid (itW_len K1 N1 F1 Z1)
        have HI2 := hid (itW_len K2 N2 F2 Z2)
        obtain ⟨A1, hA1⟩ : ∃ A, itW K1 N1 F1 Z1 = A := ⟨_, rfl⟩
        obtain ⟨A2, hA2⟩ : ∃ A, itW K2 N2 F2 Z2 = A := ⟨_, rfl⟩
        rw [hA1] at HI1
        rw [hA2] at HI2
        have HR2 := hid (show RW = A1 ++ 61 :: A2 by rw [HRw.out, ← hA1, ← hA2]; rfl)
        have HA1 := hid hA1
        have HA2 := hid hA2
        have HOk2 := hid (show LX5.length + (tailW (rowsW es k)).length ≤ 300 + 164 * k by have := HTl.out; omega)
        obtain ⟨LK, hLK⟩ : ∃ X, LX5 ++ tailW (rowsW es k) = X := ⟨_, rfl⟩
        rw [hLK] at HOk
        have HLK := hid hLK
        have HLKl := hid (show LK.length ≤ 300 + 164 * k by rw [← hLK, List.length_append]; exact HOk2.out)
        clear hA1 hA2 HRw HOk2 hLK HTl
        have k0 := bx1.c0
        have k1 := bx1.c1
        have k2 := bx1.c2
        have k3 := bx1.c3
        have Q1 := hid q1
        have Q2 := hid q2
        have BX2 := hid bx2
        have hst3 := fun w a m => run_store Tryd.prog w a (.float .f64 F1) m rfl
        have hst4 := fun w a m => run_store Tryd.prog w a (.float .f64 F2) m rfl
        obtain ⟨ak, ck, rfl⟩ := own_sl18 HOk.out
        have HLine := hid (LineB.own HOk.out)
        clear bx1 bx2 q1 q2 hM e2
        go_wp2_with fail
        clear k0 k1 k2 k3 q8
        refine (spec_l18item K1 N1 F1 d1 Q1.out z1 y1 f1).mono ?_
        rintro e t1 ⟨u, rfl, nb, b1⟩
        rw [HA1.out] at nb
        have HWd := hid nb.word
        have HLy := hid (HLine.out.below b1)
        have HF1 := hid (HF.out.trans (b1.mono HF.out.size))
        have HQ2 := hid (Q2.out.below b1 (Nat.le_refl _))
        have HBX := hid (BX2.out.below b1 (Nat.le_refl _))
        clear nb b1 HLine Q1 Q2 BX2
        go_wp2_with fail
        refine (spec_l18word HLy.out HF1.out.size HWd.out (by have := HI1.out; have := HLKl.out; omega)).mono ?_
        rintro e t2 ⟨v, rfl, o, b2⟩
        have HF2 := hid (HF1.out.trans b2)
        clear b2 HLy HWd HQ2 HBX
        obtain ⟨al, cl, rfl⟩ := own_sl18 o
        obtain ⟨LM, hLM⟩ : ∃ X, LK ++ 32 :: A1 = X := ⟨_, rfl⟩
        have HLMl := hid (show LM.length ≤ 400 + 164 * k by rw [← hLM, List.length_append, List.length_cons]; have := HI1.out; have := HLKl.out; omega)
        rw [hLM] at o
        simp only [hLM]
        have HLM := hid hLM
        have HOm := hid (o.alloc (.cells #[.int .u8 61] 5))
        have HFm := hid (HF2.out.trans ((Below.alloc1 t2 (.cells #[.int .u8 61] 5)).mono HF2.out.size))
        have hszm := HFm.out.size
        have hml := HLMl.out
        clear o hLM
        go_wp2_with (at_builtin; refine wpList_append_own _ rfl _ _ 23 rfl U0.heap.size 5 i0 (.int .u8 0) 1 1 Tryd.underlying23 hi hz0 hz1 hz2 rfl (by decide) _ _ _ rfl HOm.out ⟨t2.heap.size, 0, none⟩ 1 1 [.int .u8 61] rfl rfl (cell_one_new _ _ _) ?aT2 ?aT3 ?aT4 ?aT5 ?_)
        case aT2 => intro u hu; simp at hu; subst hu; rfl
        case aT3 => unfold maxLen; omega
        case aT4 => omega
        case aT5 => exact hszm
        intro v1 w3 hown' hgrow _
        have HF3 := hid (HFm.out.grown hgrow hszm (fun j hj => (HOm.out.lt j hj).1))
        have HO3 := hid hown'
        obtain ⟨an, cn, rfl⟩ := own_sl18 hown'
        clear hown' hgrow HOm hszm
        have hM3 := HM0.out.below HF3.out (Nat.le_refl _)
        obtain ⟨b3, off3, a3, d3, e3, bx3, q3, _, _, _⟩ := hM3.at (k := k * 2 + 1) (by have := HL.out; omega)
        obtain ⟨hbb, hoo⟩ : b = b3 ∧ off = off3 := by simpa using e3
        subst hbb hoo
        rw [show off + (k * 2 + 1) * 4 = off + k * 8 + 4 by omega, HE2.out] at bx3
        rw [HE2.out] at q3
        simp only at bx3 q3
        rw [hm2] at bx3 q3
        have k8 : w3.cell? ⟨w.heap.size, 8, none⟩ = some (.slice (some ⟨b, off, none⟩) m cr) := by rw [cell_of_row _ _ _ _ _ _ (HRow.out _ HF3.out)]; rfl
        have k4 := bx3.c0
        have k5 := bx3.c1
        have k6 := bx3.c2
        have k7 := bx3.c3
        have Q3 := hid q3
        clear bx3 q3 hM3 e3
        go_wp2_with fail
        clear k4 k5 k6 k7 k8
        refine (spec_l18item K2 N2 F2 d3 Q3.out z2 y2 f2).mono ?_
        rintro e t4 ⟨u, rfl, nb, b4⟩
        rw [HA2.out] at nb
        obtain ⟨gw, cw, rfl, hw0, hw1, hw2, hw3, hw4, hw5⟩ := nb.ex
        have HCw := hid hw5
        have HF4 := hid (HF3.out.trans (b4.mono HF3.out.size))
        have HO4 := hid (owns_below b4 (Nat.le_refl _) HO3.out)
        have hsz4 := HF4.out.size
        have ha2 := HI2.out
        clear nb b4 HO3 Q3 hw3 hw4 hw5
        go_wp2_with (at_builtin; refine wpList_append_own _ rfl _ _ 23 rfl U0.heap.size 5 i0 (.int .u8 0) 1 1 Tryd.underlying23 hi hz0 hz1 hz2 rfl (by decide) _ _ _ rfl HO4.out ⟨gw, 0, none⟩ A2.length cw (bys A2) rfl (by rw [bys_length, Nat.mul_one]) HCw.out (bys_ones A2) ?bT3 ?bT4 ?bT5 ?_)
        case bT3 => unfold maxLen; omega
        case bT4 => omega
        case bT5 => exact hsz4
        intro v5 w5 hown' hgrow _
        have HF5 := hid (HF4.out.grown hgrow hsz4 (fun j hj => (HO4.out.lt j hj).1))
        have HLs := hid (show LX5 ++ tailW (rowsW es (k + 1)) = LK ++ 32 :: (A1 ++ 61 :: A2) by
          rw [HSc.out, tailW_app, ← List.append_assoc, HLK.out, HR2.out]
          simp [tailW])
        have HO5 := hid (show w5.ownsRow U0.heap.size 5 1 v5 (LX5 ++ tailW (rowsW es (k + 1))).length (bys (LX5 ++ tailW (rowsW es (k + 1)))) by
          rw [HLs.out, show LK ++ 32 :: (A1 ++ 61 :: A2) = LM ++ [61] ++ A2 by rw [← HLM.out]; simp]
          have h9 := hown'
          have e1 : (LM ++ [61] ++ A2).length = LM.length + 1 + A2.length := by rw [List.length_append, List.length_append]; rfl
          have e2 : bys (LM ++ [61] ++ A2) = bys LM ++ Value.int .u8 61 :: bys A2 := by rw [bys_append, bys_append, List.append_assoc]; rfl
          rw [e1, e2]
          exact h9)
        clear hown' hgrow HO4 HCw
        go_wp2_with fail
        go_roundw
        case rel => exact ⟨k + 1, by omega, by go_num, HO5, HF5⟩
        case measure => simp [intOf]; omega
      · have hlt' : ¬ (k : Int) < (m : Int) := by omega
        obtain rfl : k = m := by omega
        have ho := HOk.out
        obtain ⟨ak, ck, rfl⟩ := own_sl18 ho
        have HTx := hid (show txtR se kd co nn K N f zs tot es k = LX5 ++ tailW (rowsW es k) by rw [txtR_eq, HJ.out])
        have HBf := hid (HB0.out.trans (HF.out.mono HB0.out.size))
        have HOf := hid (owns_lower ho HB0.out.size)
        obtain ⟨TX, hTX⟩ : ∃ X, LX5 ++ tailW (rowsW es k) = X := ⟨_, rfl⟩
        rw [hTX] at HOf HTx
        simp only [hTX]
        clear ho HOk hTX
        go_wp2_with fail
        go_ret
        exact ⟨_, rfl, by rw [HTx.out]; exact HOf.out, HBf.out⟩

  · rw [decide_eq_false hco]
    have HX0 := hid (show codeW co = [63, 63] by unfold codeW; rw [if_neg hco])
    obtain ⟨LX0, hLX⟩ : ∃ X : List Int, X = [63, 63] := ⟨_, rfl⟩
    rw [← hLX] at HX0
    have hlx : LX0.length ≤ 2 := by rw [hLX]; simp
    have HLine := hid (show LineB U0.heap.size (U0.heap.size + 1) x0 (.slice (some ⟨U0.heap.size, 0, none⟩) 2 2) LX0 by rw [hLX]; exact HLc.out)
    have HF := HF0
    have hxz : U0.heap.size + 1 ≤ x0.heap.size := Nat.le_of_eq HFz.out.symm
    have hl2 : LX0.length = 2 := by rw [hLX]; rfl
    clear hLX HLc HF0 HFz hco
    have k0 : x0.cell? ⟨w.heap.size, 0, none⟩ = some (.int .i64 se) := by rw [cell_of_row _ _ _ _ _ _ (HRow.out _ HF.out)]; rfl
    go_wp2_with fail
    clear k0
    refine (spec_l18digits se x0 hse).mono ?_
    rintro e y0 ⟨u, rfl, nb, b⟩
    have hml := decI_len se
    have HWd := hid (nb.word.lower hxz)
    have HLy := hid (HLine.out.below b)
    replace HF := hid (HF.out.trans (b.mono HF.out.size))
    clear nb b
    go_wp2_with fail
    refine (spec_l18word HLy.out HF.out.size HWd.out (by omega)).mono ?_
    rintro e z0 ⟨v, rfl, o, b⟩
    replace HF := hid (HF.out.trans b)
    clear b HLy HWd
    obtain ⟨aL0, cL0, rfl⟩ := own_sl18 o
    have HEq0 := hid (show LX0 ++ 32 :: decI se = LX0 ++ 32 :: decI se from rfl)
    have hln : (LX0 ++ 32 :: decI se).length ≤ 27 := by rw [List.length_append, List.length_cons]; omega
    clear hml hlx
    obtain ⟨LX1, hLX⟩ : ∃ X, LX0 ++ 32 :: decI se = X := ⟨_, rfl⟩
    rw [hLX] at o hln
    simp only [hLX]
    have HX1 := hid hLX
    have hlx := hln
    clear hLX hln
    replace HLine := hid (LineB.own o)
    have HOw := hid o
    clear o
    have k1 : z0.cell? ⟨w.heap.size, 1, none⟩ = some (.int .i64 kd) := by rw [cell_of_row _ _ _ _ _ _ (HRow.out _ HF.out)]; rfl
    go_wp2_with fail
    clear k1
    refine (spec_l18digits kd z0 hkd).mono ?_
    rintro e y1 ⟨u, rfl, nb, b⟩
    have hml := decI_len kd
    have HWd := hid (nb.word.lower (Nat.le_refl _))
    have HLy := hid (HLine.out.below b)
    replace HF := hid (HF.out.trans (b.mono HF.out.size))
    clear nb b
    go_wp2_with fail
    refine (spec_l18word HLy.out HF.out.size HWd.out (by omega)).mono ?_
    rintro e z1 ⟨v, rfl, o, b⟩
    replace HF := hid (HF.out.trans b)
    clear b HLy HWd
    obtain ⟨aL1, cL1, rfl⟩ := own_sl18 o
    have HEq1 := hid (show LX1 ++ 32 :: decI kd = LX1 ++ 32 :: decI kd from rfl)
    have hln : (LX1 ++ 32 :: decI kd).length ≤ 52 := by rw [List.length_append, List.length_cons]; omega
    clear hml hlx
    obtain ⟨LX2, hLX⟩ : ∃ X, LX1 ++ 32 :: decI kd = X := ⟨_, rfl⟩
    rw [hLX] at o hln
    simp only [hLX]
    have HX2 := hid hLX
    have hlx := hln
    clear hLX hln
    replace HLine := hid (LineB.own o)
    have HOw := hid o
    clear o
    have k3 : z1.cell? ⟨w.heap.size, 3, none⟩ = some (.int .i64 nn) := by rw [cell_of_row _ _ _ _ _ _ (HRow.out _ HF.out)]; rfl
    go_wp2_with fail
    clear k3
    refine (spec_l18digits nn z1 hnn).mono ?_
    rintro e y2 ⟨u, rfl, nb, b⟩
    have hml := decI_len nn
    have HWd := hid (nb.word.lower (Nat.le_refl _))
    have HLy := hid (HLine.out.below b)
    replace HF := hid (HF.out.trans (b.mono HF.out.size))
    clear nb b
    go_wp2_with fail
    refine (spec_l18word HLy.out HF.out.size HWd.out (by omega)).mono ?_
    rintro e z2 ⟨v, rfl, o, b⟩
    replace HF := hid (HF.out.trans b)
    clear b HLy HWd
    obtain ⟨aL2, cL2, rfl⟩ := own_sl18 o
    have HEq2 := hid (show LX2 ++ 32 :: decI nn = LX2 ++ 32 :: decI nn from rfl)
    have hln : (LX2 ++ 32 :: decI nn).length ≤ 77 := by rw [List.length_append, List.length_cons]; omega
    clear hml hlx
    obtain ⟨LX3, hLX⟩ : ∃ X, LX2 ++ 32 :: decI nn = X := ⟨_, rfl⟩
    rw [hLX] at o hln
    simp only [hLX]
    have HX3 := hid hLX
    have hlx := hln
    clear hLX hln
    replace HLine := hid (LineB.own o)
    have HOw := hid o
    clear o
    have k4 : z2.cell? ⟨w.heap.size, 4, none⟩ = some (.int .i64 K) := by rw [cell_of_row _ _ _ _ _ _ (HRow.out _ HF.out)]; rfl
    have k5 : z2.cell? ⟨w.heap.size, 5, none⟩ = some (.int .i64 N) := by rw [cell_of_row _ _ _ _ _ _ (HRow.out _ HF.out)]; rfl
    have k6 : z2.cell? ⟨w.heap.size, 6, none⟩ = some (.float .f64 f) := by rw [cell_of_row _ _ _ _ _ _ (HRow.out _ HF.out)]; rfl
    have k7 : z2.cell? ⟨w.heap.size, 7, none⟩ = some (.slice ad n c) := by rw [cell_of_row _ _ _ _ _ _ (HRow.out _ HF.out)]; rfl
    go_wp2_with fail
    clear k4 k5 k6 k7
    refine (spec_l18item K N f c (HA0.out.below HF.out (Nat.le_refl _)) hn hN hf).mono ?_
    rintro e y3 ⟨u, rfl, nb, b⟩
    have hml := itW_len K N f zs
    have HWd := hid (nb.word.lower (Nat.le_refl _))
    have HLy := hid (HLine.out.below b)
    replace HF := hid (HF.out.trans (b.mono HF.out.size))
    clear nb b
    go_wp2_with fail
    refine (spec_l18word HLy.out HF.out.size HWd.out (by omega)).mono ?_
    rintro e z3 ⟨v, rfl, o, b⟩
    replace HF := hid (HF.out.trans b)
    clear b HLy HWd
    obtain ⟨aL3, cL3, rfl⟩ := own_sl18 o
    have HEq3 := hid (show LX3 ++ 32 :: itW K N f zs = LX3 ++ 32 :: itW K N f zs from rfl)
    have hln : (LX3 ++ 32 :: itW K N f zs).length ≤ 159 := by rw [List.length_append, List.length_cons]; omega
    clear hml hlx
    obtain ⟨LX4, hLX⟩ : ∃ X, LX3 ++ 32 :: itW K N f zs = X := ⟨_, rfl⟩
    rw [hLX] at o hln
    simp only [hLX]
    have HX4 := hid hLX
    have hlx := hln
    clear hLX hln
    replace HLine := hid (LineB.own o)
    have HOw := hid o
    clear o
    have k9 : z3.cell? ⟨w.heap.size, 9, none⟩ = some (.float .f64 tot) := by rw [cell_of_row _ _ _ _ _ _ (HRow.out _ HF.out)]; rfl
    have HFx := hid HF.out
    have hl4 : z3.heap.size ≤ z3.heap.size := Nat.le_refl _
    go_wp2_with (first
      | (go_at_call 30; refine (spec_FloatBits tot htot _).mono ?_; rintro e w1 ⟨rfl, e1'⟩; subst w1)
      | (go_at_call 29; refine (spec_l3high (fbits tot) (fbits_lt tot htot) _).mono ?_; rintro e w3 ⟨v3, rfl, o3, b3⟩; obtain ⟨a3, c3, rfl, r3, _⟩ := Reads.own o3 (fun i => hi8_bd (fbits tot) 8 i); have HB3 := hid b3; have HR3 := hid r3; clear o3 b3 r3))
    clear k9 hl4
    refine (spec_l18hex c3 HR3.out (by omega)).mono ?_
    rintro e y4 ⟨u, rfl, o4, hv0, b4⟩
    have b := HB3.out.trans (b4.mono HB3.out.size)
    have hml : (hexB (hi8 (fbits tot) 8)).length = 16 := by rw [hexB_len, hi8_length]
    have nb := NewB.lower (NewB.own o4 (by omega)) HB3.out.size
    clear o4 hv0 b4
    have HWd := hid (nb.word.lower (Nat.le_refl _))
    have HLy := hid (HLine.out.below b)
    replace HF := hid (HF.out.trans (b.mono HF.out.size))
    clear nb b
    go_wp2_with fail
    refine (spec_l18word HLy.out HF.out.size HWd.out (by omega)).mono ?_
    rintro e z4 ⟨v, rfl, o, b⟩
    replace HF := hid (HF.out.trans b)
    clear b HLy HWd
    obtain ⟨aL4, cL4, rfl⟩ := own_sl18 o
    have HEq4 := hid (show LX4 ++ 32 :: hexB (hi8 (fbits tot) 8) = LX4 ++ 32 :: hexB (hi8 (fbits tot) 8) from rfl)
    have hln : (LX4 ++ 32 :: hexB (hi8 (fbits tot) 8)).length ≤ 176 := by rw [List.length_append, List.length_cons]; omega
    clear hml hlx
    obtain ⟨LX5, hLX⟩ : ∃ X, LX4 ++ 32 :: hexB (hi8 (fbits tot) 8) = X := ⟨_, rfl⟩
    rw [hLX] at o hln
    simp only [hLX]
    have HX5 := hid hLX
    have hlx := hln
    clear hLX hln
    replace HLine := hid (LineB.own o)
    have HOw := hid o
    clear o
    have HJ := hid (show joinW (headW se kd co nn K N f zs tot) = LX5 by rw [← HX5.out, ← HX4.out, ← HX3.out, ← HX2.out, ← HX1.out, ← HX0.out]; simp [headW, joinW, tailW])
    clear HLine HX0 HX1 HX2 HX3 HX4 HX5 HEq0 HEq1 HEq2 HEq3 HEq4
    go_wp2_with fail
    go_loopw [3, 4] (fun v s wr => ∃ k : Nat, k ≤ m ∧ s = .int .i64 (k : Int) ∧ Hid (wr.ownsRow U0.heap.size 5 1 v (LX5 ++ tailW (rowsW es k)).length (bys (LX5 ++ tailW (rowsW es k)))) ∧ Hid (Below U0.heap.size U0 wr)) (fun _ s _ => m - (intOf s).toNat)
    case atStart => exact ⟨0, Nat.zero_le _, rfl, hid (by simpa [rowsW, tailW] using HOw.out), HF⟩
    case round =>
      clear HF
      obtain ⟨k, hk, rfl, HOk, HF⟩ := hrel
      have hsz := HF.out.size
      have q8 : wr.cell? ⟨w.heap.size, 8, none⟩ = some (.slice ar m cr) := by rw [cell_of_row _ _ _ _ _ _ (HRow.out _ HF.out)]; rfl
      by_cases hlt : k < m
      · have hlt' : (k : Int) < (m : Int) := by omega
        have hk0 : (0 : Int) ≤ (k : Int) := by omega
        have hM := HM0.out.below HF.out (Nat.le_refl _)
        obtain ⟨b, off, a1, d1, rfl, bx1, q1, _, _, _⟩ := hM.at (k := k * 2) (by have := HL.out; omega)
        obtain ⟨b', off', a2, d2, e2, bx2, q2, _, _, _⟩ := hM.at (k := k * 2 + 1) (by have := HL.out; omega)
        obtain ⟨hbb, hoo⟩ : b = b' ∧ off = off' := by simpa using e2
        subst hbb hoo
        rw [show off + k * 2 * 4 = off + k * 8 by omega] at bx1
        rw [show off + (k * 2 + 1) * 4 = off + k * 8 + 4 by omega] at bx2
        have f1 := HM0.out.fl (k * 2)
        have f2 := HM0.out.fl (k * 2 + 1)
        have z1 := HZs.out (k * 2)
        have z2 := HZs.out (k * 2 + 1)
        have y1 := HNs.out (k * 2)
        have y2 := HNs.out (k * 2 + 1)
        have HRw := hid (show rowW es k = imW (es.getD (k * 2) im0) ++ 61 :: imW (es.getD (k * 2 + 1) im0) from rfl)
        have HSc := hid (rowsW_succ es k)
        have HTl := hid (tailW_rows_len es k)
        generalize rowW es k = RW at *
        generalize es.getD (k * 2) im0 = E1 at *
        obtain ⟨E2, hE2⟩ : ∃ E, es.getD (k * 2 + 1) im0 = E := ⟨_, rfl⟩
        have HE2p := hid hE2
        rw [hE2] at bx2 q2 f2 z2 y2 HRw
        clear hE2
        obtain ⟨K1, N1, F1, Z1⟩ := E1
        obtain ⟨K2, N2, F2, Z2⟩ := E2
        have HE2 := HE2p
        clear HE2p
        simp only at bx1 bx2 q1 q2 f1 f2 z1 z2 y1 y2
        obtain ⟨m1, hm1⟩ : ∃ m, Z1.length = m := ⟨_, rfl⟩
        obtain ⟨m2, hm2⟩ : ∃ m, Z2.length = m := ⟨_, rfl⟩
        rw [hm1] at bx1 q1 z1
        rw [hm2] at bx2 q2 z2
        have HI1 := hid (itW_len K1 N1 F1 Z1)
        have HI2 := hid (itW_len K2 N2 F2 Z2)
        obtain ⟨A1, hA1⟩ : ∃ A, itW K1 N1 F1 Z1 = A := ⟨_, rfl⟩
        obtain ⟨A2, hA2⟩ : ∃ A, itW K2 N2 F2 Z2 = A := ⟨_, rfl⟩
        rw [hA1] at HI1
        rw [hA2] at HI2
        have HR2 := hid (show RW = A1 ++ 61 :: A2 by rw [HRw.out, ← hA1, ← hA2]; rfl)
        have HA1 := hid hA1
        have HA2 := hid hA2
        have HOk2 := hid (show LX5.length + (tailW (rowsW es k)).length ≤ 300 + 164 * k by have := HTl.out; omega)
        obtain ⟨LK, hLK⟩ : ∃ X, LX5 ++ tailW (rowsW es k) = X := ⟨_, rfl⟩
        rw [hLK] at HOk
        have HLK := hid hLK
        have HLKl := hid (show LK.length ≤ 300 + 164 * k by rw [← hLK, List.length_append]; exact HOk2.out)
        clear hA1 hA2 HRw HOk2 hLK HTl
        have k0 := bx1.c0
        have k1 := bx1.c1
        have k2 := bx1.c2
        have k3 := bx1.c3
        have Q1 := hid q1
        have Q2 := hid q2
        have BX2 := hid bx2
        have hst3 := fun w a m => run_store Tryd.prog w a (.float .f64 F1) m rfl
        have hst4 := fun w a m => run_store Tryd.prog w a (.float .f64 F2) m rfl
        obtain ⟨ak, ck, rfl⟩ := own_sl18 HOk.out
        have HLine := hid (LineB.own HOk.out)
        clear bx1 bx2 q1 q2 hM e2
        go_wp2_with fail
        clear k0 k1 k2 k3 q8
        refine (spec_l18item K1 N1 F1 d1 Q1.out z1 y1 f1).mono ?_
        rintro e t1 ⟨u, rfl, nb, b1⟩
        rw [HA1.out] at nb
        have HWd := hid nb.word
        have HLy := hid (HLine.out.below b1)
        have HF1 := hid (HF.out.trans (b1.mono HF.out.size))
        have HQ2 := hid (Q2.out.below b1 (Nat.le_refl _))
        have HBX := hid (BX2.out.below b1 (Nat.le_refl _))
        clear nb b1 HLine Q1 Q2 BX2
        go_wp2_with fail
        refine (spec_l18word HLy.out HF1.out.size HWd.out (by have := HI1.out; have := HLKl.out; omega)).mono ?_
        rintro e t2 ⟨v, rfl, o, b2⟩
        have HF2 := hid (HF1.out.trans b2)
        clear b2 HLy HWd HQ2 HBX
        obtain ⟨al, cl, rfl⟩ := own_sl18 o
        obtain ⟨LM, hLM⟩ : ∃ X, LK ++ 32 :: A1 = X := ⟨_, rfl⟩
        have HLMl := hid (show LM.length ≤ 400 + 164 * k by rw [← hLM, List.length_append, List.length_cons]; have := HI1.out; have := HLKl.out; omega)
        rw [hLM] at o
        simp only [hLM]
        have HLM := hid hLM
        have HOm := hid (o.alloc (.cells #[.int .u8 61] 5))
        have HFm := hid (HF2.out.trans ((Below.alloc1 t2 (.cells #[.int .u8 61] 5)).mono HF2.out.size))
        have hszm := HFm.out.size
        have hml := HLMl.out
        clear o hLM
        go_wp2_with (at_builtin; refine wpList_append_own _ rfl _ _ 23 rfl U0.heap.size 5 i0 (.int .u8 0) 1 1 Tryd.underlying23 hi hz0 hz1 hz2 rfl (by decide) _ _ _ rfl HOm.out ⟨t2.heap.size, 0, none⟩ 1 1 [.int .u8 61] rfl rfl (cell_one_new _ _ _) ?aT2 ?aT3 ?aT4 ?aT5 ?_)
        case aT2 => intro u hu; simp at hu; subst hu; rfl
        case aT3 => unfold maxLen; omega
        case aT4 => omega
        case aT5 => exact hszm
        intro v1 w3 hown' hgrow _
        have HF3 := hid (HFm.out.grown hgrow hszm (fun j hj => (HOm.out.lt j hj).1))
        have HO3 := hid hown'
        obtain ⟨an, cn, rfl⟩ := own_sl18 hown'
        clear hown' hgrow HOm hszm
        have hM3 := HM0.out.below HF3.out (Nat.le_refl _)
        obtain ⟨b3, off3, a3, d3, e3, bx3, q3, _, _, _⟩ := hM3.at (k := k * 2 + 1) (by have := HL.out; omega)
        obtain ⟨hbb, hoo⟩ : b = b3 ∧ off = off3 := by simpa using e3
        subst hbb hoo
        rw [show off + (k * 2 + 1) * 4 = off + k * 8 + 4 by omega, HE2.out] at bx3
        rw [HE2.out] at q3
        simp only at bx3 q3
        rw [hm2] at bx3 q3
        have k8 : w3.cell? ⟨w.heap.size, 8, none⟩ = some (.slice (some ⟨b, off, none⟩) m cr) := by rw [cell_of_row _ _ _ _ _ _ (HRow.out _ HF3.out)]; rfl
        have k4 := bx3.c0
        have k5 := bx3.c1
        have k6 := bx3.c2
        have k7 := bx3.c3
        have Q3 := hid q3
        clear bx3 q3 hM3 e3
        go_wp2_with fail
        clear k4 k5 k6 k7 k8
        refine (spec_l18item K2 N2 F2 d3 Q3.out z2 y2 f2).mono ?_
        rintro e t4 ⟨u, rfl, nb, b4⟩
        rw [HA2.out] at nb
        obtain ⟨gw, cw, rfl, hw0, hw1, hw2, hw3, hw4, hw5⟩ := nb.ex
        have HCw := hid hw5
        have HF4 := hid (HF3.out.trans (b4.mono HF3.out.size))
        have HO4 := hid (owns_below b4 (Nat.le_refl _) HO3.out)
        have hsz4 := HF4.out.size
        have ha2 := HI2.out
        clear nb b4 HO3 Q3 hw3 hw4 hw5
        go_wp2_with (at_builtin; refine wpList_append_own _ rfl _ _ 23 rfl U0.heap.size 5 i0 (.int .u8 0) 1 1 Tryd.underlying23 hi hz0 hz1 hz2 rfl (by decide) _ _ _ rfl HO4.out ⟨gw, 0, none⟩ A2.length cw (bys A2) rfl (by rw [bys_length, Nat.mul_one]) HCw.out (bys_ones A2) ?bT3 ?bT4 ?bT5 ?_)
        case bT3 => unfold maxLen; omega
        case bT4 => omega
        case bT5 => exact hsz4
        intro v5 w5 hown' hgrow _
        have HF5 := hid (HF4.out.grown hgrow hsz4 (fun j hj => (HO4.out.lt j hj).1))
        have HLs := hid (show LX5 ++ tailW (rowsW es (k + 1)) = LK ++ 32 :: (A1 ++ 61 :: A2) by
          rw [HSc.out, tailW_app, ← List.append_assoc, HLK.out, HR2.out]
          simp [tailW])
        have HO5 := hid (show w5.ownsRow U0.heap.size 5 1 v5 (LX5 ++ tailW (rowsW es (k + 1))).length (bys (LX5 ++ tailW (rowsW es (k + 1)))) by
          rw [HLs.out, show LK ++ 32 :: (A1 ++ 61 :: A2) = LM ++ [61] ++ A2 by rw [← HLM.out]; simp]
          have h9 := hown'
          have e1 : (LM ++ [61] ++ A2).length = LM.length + 1 + A2.length := by rw [List.length_append, List.length_append]; rfl
          have e2 : bys (LM ++ [61] ++ A2) = bys LM ++ Value.int .u8 61 :: bys A2 := by rw [bys_append, bys_append, List.append_assoc]; rfl
          rw [e1, e2]
          exact h9)
        clear hown' hgrow HO4 HCw
        go_wp2_with fail
        go_roundw
        case rel => exact ⟨k + 1, by omega, by go_num, HO5, HF5⟩
        case measure => simp [intOf]; omega
      · have hlt' : ¬ (k : Int) < (m : Int) := by omega
        obtain rfl : k = m := by omega
        have ho := HOk.out
        obtain ⟨ak, ck, rfl⟩ := own_sl18 ho
        have HTx := hid (show txtR se kd co nn K N f zs tot es k = LX5 ++ tailW (rowsW es k) by rw [txtR_eq, HJ.out])
        have HBf := hid (HB0.out.trans (HF.out.mono HB0.out.size))
        have HOf := hid (owns_lower ho HB0.out.size)
        obtain ⟨TX, hTX⟩ : ∃ X, LX5 ++ tailW (rowsW es k) = X := ⟨_, rfl⟩
        rw [hTX] at HOf HTx
        simp only [hTX]
        clear ho HOk hTX
        go_wp2_with fail
        go_ret
        exact ⟨_, rfl, by rw [HTx.out]; exact HOf.out, HBf.out⟩

end Go.Proofs.YtoppccfgcccijaaDoor
