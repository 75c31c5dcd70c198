/- The contract of the program's LogBytes. Conditions: at most 2^21 records. -/
import Derived.Test.YtgdnjpdheghfoaaLbp
import Derived.Test.YtgdnjpdheghfoaaRbi
import Derived.Test.YtgdnjpdheghfoaaNz
import Derived.Deep.AppendLies
namespace Go.Proofs.Ytgdnjpdheghfoaa
open Go.RowKit
set_option maxRecDepth 100000

set_option maxHeartbeats 12800000 in
theorem impl_LogBytes {ad : Option Addr} {n : Nat} (cap : Nat) {rs : List Rc} {w : World} (h : ReadsR w ad rs) (hl : rs.length = n) (hn : n ≤ 2097152) :
    Calls Try.prog 17 #[.slice ad n cap] w fun e w' => ∃ v, e = .returned (.tuple #[v, .bool (logB rs).2]) ∧ w'.ownsRow w.heap.size 5 1 v (logB rs).1.length (bys (logB rs).1) ∧ Below w.heap.size w w' := by
  obtain ⟨i0, hi, hz0, hz1, hz2⟩ := info_parts Try.info22
  go_enter Try.func17, Try.ntmps17
  go_wp2
  go_loopw [4, 5, 11] (fun p q i wr => ∃ (k M : Nat) (va : Option Addr) (vc : Nat) (xs : List Value), k ≤ n ∧ i = .int .i64 k ∧ q = .int .i64 (65536 - (M : Int)) ∧ p = .slice va k vc ∧ M ≤ 65536 ∧ Hid (M = (bytesL (rs.take k)).length) ∧ Hid ((rs.take k).all okR = true) ∧ Hid (wr.ownsRow w.heap.size 22 1 (.slice va k vc) k xs) ∧ Hid (Bands wr w.heap.size wr.heap.size xs ((rs.take k).map bytesR)) ∧ Hid (Below w.heap.size w wr)) (fun _ _ i _ => n - (intOf i).toNat)
  case atStart => exact ⟨0, 0, none, 0, [], Nat.zero_le _, rfl, by go_num, rfl, by omega, hid rfl, hid rfl, hid (World.ownsRow_nil w w.heap.size 22 1), hid (Bands.nil _ _ _), hid (Below.refl _ _)⟩
  case round =>
    obtain ⟨k, M, va, vc, xs, hk, rfl, rfl, rfl, hM, HM, HA, HO, HX, HB⟩ := hrel
    by_cases hlt : k < n
    · have hlt' : (k : Int) < (n : Int) := by omega
      have hk0 : (0 : Int) ≤ (k : Int) := by omega
      rcases h.cells with h0 | ⟨b, off, rfl, hc⟩
      · omega
      obtain ⟨v, x1, a, c, rfl, hr0, hnil, _⟩ := hc k (by omega)
      obtain ⟨hc0, hc1, hc2, hc3, hc4, hc5⟩ := x1.below HB.out (Nat.le_refl _)
      have hr := hid (hr0.below HB.out (Nat.le_refl _))
      have hb1 := bytesL_step rs k (by omega)
      have hb2 := all_step rs k (by omega)
      have hb3 := @logB_no rs k (by omega)
      have hb4 := @logB_big rs (k + 1)
      have hbz := bytesR_zero hr0.bd
      have hbb := bytesR_bd hr0.bd
      have hbl := bytesR_length hr0.bd
      have hsn : (rs.take (k + 1)).map bytesR = (rs.take k).map bytesR ++ [bytesR (rs.getD k r0)] := by rw [takeR_snoc rs k (by omega), List.map_append]; rfl
      generalize rs.getD k r0 = p at *
      obtain ⟨K, L, X, P, S, zs⟩ := p
      obtain ⟨m, hm⟩ : ∃ m, zs.length = m := ⟨_, rfl⟩
      simp only [Nat.add_zero] at hc0 hc1 hc2 hc3 hc4 hc5 hr
      rw [hm] at hc5 hr
      have f1 := fun (W : World) (hR : Reads W a m zs) => impl_RecordBytes K L X P S c hR hnil
      generalize bytesR ⟨K, L, X, P, S, zs⟩ = Zb at *
      obtain ⟨N, hN⟩ : ∃ N, Zb.length = N := ⟨_, rfl⟩
      rw [hN] at f1 hbz hbl
      have hlen1 : (bytesL (rs.take (k + 1))).length = M + N := by rw [hb1, List.length_append, ← HM.out, hN]
      have F1 := hid f1
      have H1 := hid hb1
      have H2 := hid hb2
      have H3 := hid hb3
      have H4 := hid hb4
      have H5 := hid hbz
      have HBB := hid hbb
      have HL1 := hid hlen1
      have HN := hid hN
      have HSN := hid hsn
      clear hc x1 hr0 hnil hm hb1 hb2 hb3 hb4 hbz f1 hlen1 hN hbb hsn
      have bA := Below.alloc1 wr (.cells #[.int .i64 K, .int .i64 L, .int .i64 X, .int .i64 P, .int .i64 S, .slice a m c] 36)
      have HR := hid (hr.out.below bA (Nat.le_refl _))
      have HB1 := hid (HB.out.trans (bA.mono HB.out.size))
      have HO1 := hid (owns_below bA (Nat.le_refl _) HO.out)
      have HX1 := hid ((HX.out.agree (Agree.below bA (Nat.le_refl _))).mono (Nat.le_refl _) bA.size)
      clear bA
      go_wp2_with fail
      generalize wr.alloc (.cells #[.int .i64 K, .int .i64 L, .int .i64 X, .int .i64 P, .int .i64 S, .slice a m c] 36) = W1 at *
      refine (F1.out _ HR.out).mono ?_
      rintro e w2 ⟨v2, rfl, o, b⟩
      obtain ⟨a2, c2, rfl⟩ := own_slice o
      have HB2 := hid (HB1.out.trans (b.mono HB1.out.size))
      have HO2 := hid (owns_below b (Nat.le_refl _) HO1.out)
      have OD := hid o
      have HZ := hid (And.intro HB1.out.size b.size)
      have HX2 := hid (HX1.out.agree (Agree.below b (Nat.le_refl _)))
      clear b o F1
      by_cases hz : N = 0
      · subst hz
        have HE := hid (H3.out (H5.out.1 rfl))
        go_wp2
        refine bodyPost_ret (v := .tuple #[.slice none 0 0, .bool false]) (by simp [results, Try.results17, go_sem]) rfl ⟨.slice none 0 0, by rw [HE.out], by rw [HE.out]; exact World.ownsRow_nil _ _ _ _, HB2.out⟩
      have qz : ((N : Int) == 0) = false := by simp; omega
      by_cases hroom : 65536 < M + N
      · have HE := hid (H4.out (by rw [HL1.out]; exact hroom))
        have q2 : (65536 : Int) - M - N < 0 := by omega
        go_wp2
        refine bodyPost_ret (v := .tuple #[.slice none 0 0, .bool false]) (by simp [results, Try.results17, go_sem]) rfl ⟨.slice none 0 0, by rw [HE.out], by rw [HE.out]; exact World.ownsRow_nil _ _ _ _, HB2.out⟩
      have HOK := hid (show (rs.take (k + 1)).all okR = true by
        rw [H2.out, HA.out, Bool.true_and]
        cases hk : okR _
        · exact absurd (H5.out.2 hk) hz
        · rfl)
      have q2 : ¬ (65536 : Int) - M - N < 0 := by omega
      have q3 : (65536 : Int) - M - N = 65536 - ((M + N : Nat) : Int) := by omega
      have bL := Below.alloc1 w2 (.cells #[.slice a2 N c2] 22)
      have HO3 := hid (owns_below bL (Nat.le_refl _) HO2.out)
      have HX3 := hid (HX2.out.agree (Agree.below bL HZ.out.2))
      have OD3 := hid (owns_below bL (Nat.le_refl _) OD.out)
      have HB3 := hid (HB2.out.trans (bL.mono HB2.out.size))
      have HZ3 := hid (Nat.le_trans HZ.out.2 bL.size)
      clear bL
      go_wp2_with (at_builtin; refine wpList_append_own _ rfl _ _ 73 rfl w.heap.size 22 i0 (.slice none 0 0) 1 24 Try.underlying73 hi hz0 hz1 hz2 rfl (by decide) _ _ _ rfl HO3.out ⟨w2.heap.size, 0, none⟩ 1 1 [.slice a2 N c2] rfl rfl (World.news_of_block (heap_alloc_new w2 (.cells #[.slice a2 N c2] 22))) (by simp [Value.oneCell']) ?d3 ?d4 HB3.out.size ?_)
      case d3 => unfold maxLen; omega
      case d4 => omega
      intro v' w4 o4 g4 _
      obtain ⟨a4, c4, rfl⟩ := own_slice o4
      have hB5 := HX3.out.snoc HZ.out.1 HZ3.out (by rw [HN.out]; exact OD3.out) HBB.out (Nat.le_refl _)
      have N1 := hid ((hB5.beside g4 (fun i => owns_ne (hB5.own i) HO3.out (by decide))).mono (Nat.le_refl _) g4.size)
      have N2 := hid (HB3.out.grown g4 HB3.out.size (fun j hj => (HO3.out.lt j hj).1))
      have N3 := hid o4
      clear o4 g4 hB5
      go_wp2
      go_roundw
      case rel => exact ⟨k + 1, M + N, a4, c4, xs ++ [.slice a2 N c2], by omega, by go_num, congrArg (Value.int .i64) (by omega), rfl, by omega, hid HL1.out.symm, HOK, N3, hid (by rw [HSN.out]; exact N1.out), N2⟩
      case measure => simp [intOf]; omega
    · have hlt' : ¬ (k : Int) < (n : Int) := by omega
      have e : rs.take k = rs := List.take_of_length_le (by omega)
      have hA := HA.out
      have hMM := HM.out
      have hX := HX.out
      rw [e] at hA hMM hX
      have HE := hid (logB_yes hA (by omega))
      obtain ⟨a', c', ev, hS⟩ := ReadsS.own (ss := rs.map bytesR) (by rw [List.length_map, hl, show n = k by omega]; exact HO.out) hX
      obtain ⟨rfl, _, rfl⟩ := Value.slice.inj ev
      have ht : tot (rs.map bytesR) = M := by rw [← flat_tot]; exact hMM.symm
      have HS := hid hS
      have hbt := hid ht
      have HMM := hid hMM
      clear hA hX hS ev ht hMM e
      go_wp2_with fail
      refine (impl_joined (m := n) vc HS.out (by rw [List.length_map, hl]) (by omega) (by rw [hbt.out]; omega)).mono ?_
      rintro e w2 ⟨v2, rfl, o, b⟩
      rw [hbt.out] at o
      obtain ⟨a2, c2, rfl⟩ := own_slice o
      have O := hid (owns_base o HB.out.size)
      have B := hid (HB.out.trans (b.mono HB.out.size))
      clear o b
      go_wp2
      refine bodyPost_ret (v := .tuple #[.slice a2 M c2, .bool true]) (by simp [results, Try.results17, go_sem]) rfl ⟨.slice a2 M c2, by simp only [HE.out], ?_, B.out⟩
      rw [HE.out]
      simp only
      rw [← HMM.out]
      exact O.out
end Go.Proofs.Ytgdnjpdheghfoaa
