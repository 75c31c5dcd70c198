/- The contract of the specification's LogBytes. Conditions: at most 2^21 records. -/
import Derived.Test.YtgdnjpdheghfoaaLbp
import Derived.Test.YtgdnjpdheghfoaaRby
import Derived.Test.YtgdnjpdheghfoaaNz
import Derived.Deep.AppendLies
namespace Go.Proofs.Ytgdnjpdheghfoaa
open Go.RowKit
set_option maxRecDepth 100000

set_option maxHeartbeats 12800000 in
theorem spec_LogBytes {ad : Option Addr} {n : Nat} (cap : Nat) {rs : List Rc} {w : World} (h : ReadsR w ad rs) (hl : rs.length = n) (hn : n ≤ 2097152) :
    Calls Try.prog 18 #[.slice ad n cap] w fun e w' => ∃ v, e = .returned (.tuple #[v, .bool (logB rs).2]) ∧ w'.ownsRow w.heap.size 5 1 v (logB rs).1.length (bys (logB rs).1) ∧ Below w.heap.size w w' := by
  obtain ⟨i0, hi, hz0, hz1, hz2⟩ := info_parts Try.info5
  go_enter Try.func18, Try.ntmps18
  go_wp2
  go_loopw [4, 5] (fun p i wr => ∃ (k M : Nat) (va : Option Addr) (vc : Nat), k ≤ n ∧ i = .int .i64 k ∧ p = .slice va M vc ∧ M ≤ 65536 ∧ Hid (M = (bytesL (rs.take k)).length) ∧ Hid ((rs.take k).all okR = true) ∧ Hid (wr.ownsRow w.heap.size 5 1 (.slice va M vc) M (bys (bytesL (rs.take k)))) ∧ Hid (Below w.heap.size w wr)) (fun _ i _ => n - (intOf i).toNat)
  case atStart => exact ⟨0, 0, none, 0, Nat.zero_le _, rfl, rfl, by omega, hid rfl, hid rfl, hid (World.ownsRow_nil w w.heap.size 5 1), hid (Below.refl _ _)⟩
  case round =>
    obtain ⟨k, M, va, vc, hk, rfl, rfl, hM, HM, HA, HO, HB⟩ := hrel
    by_cases hlt : k < n
    · have hlt' : (k : Int) < (n : Int) := by omega
      have hk0 : (0 : Int) ≤ (k : Int) := by omega
      rcases h.cells with h0 | ⟨b, off, rfl, hc⟩
      · omega
      obtain ⟨v, x1, a, c, rfl, hr0, hnil, _⟩ := hc k (by omega)
      obtain ⟨hc0, hc1, hc2, hc3, hc4, hc5⟩ := x1.below HB.out (Nat.le_refl _)
      have hr := hid (hr0.below HB.out (Nat.le_refl _))
      have hb1 := bytesL_step rs k (by omega)
      have hb2 := all_step rs k (by omega)
      have hb3 := @logB_no rs k (by omega)
      have hb4 := @logB_big rs (k + 1)
      have hbz := bytesR_zero hr0.bd
      have hbb := bytesR_bd hr0.bd
      have hbl := bytesR_length hr0.bd
      have hsn : (rs.take (k + 1)).map bytesR = (rs.take k).map bytesR ++ [bytesR (rs.getD k r0)] := by rw [takeR_snoc rs k (by omega), List.map_append]; rfl
      generalize rs.getD k r0 = p at *
      obtain ⟨K, L, X, P, S, zs⟩ := p
      obtain ⟨m, hm⟩ : ∃ m, zs.length = m := ⟨_, rfl⟩
      simp only [Nat.add_zero] at hc0 hc1 hc2 hc3 hc4 hc5 hr
      rw [hm] at hc5 hr
      have f1 := fun (W : World) (hR : Reads W a m zs) => spec_RecordBytes K L X P S c hR hnil
      generalize bytesR ⟨K, L, X, P, S, zs⟩ = Zb at *
      obtain ⟨N, hN⟩ : ∃ N, Zb.length = N := ⟨_, rfl⟩
      rw [hN] at f1 hbz hbl
      have hlen1 : (bytesL (rs.take (k + 1))).length = M + N := by rw [hb1, List.length_append, ← HM.out, hN]
      have F1 := hid f1
      have H1 := hid hb1
      have H2 := hid hb2
      have H3 := hid hb3
      have H4 := hid hb4
      have H5 := hid hbz
      have HBB := hid hbb
      have HL1 := hid hlen1
      have HN := hid hN
      have HSN := hid hsn
      clear hc x1 hr0 hnil hm hb1 hb2 hb3 hb4 hbz f1 hlen1 hN hbb hsn
      have HB1 := HB
      have HO1 := HO
      go_wp2_with fail
      refine (F1.out _ hr.out).mono ?_
      rintro e w2 ⟨v2, rfl, o, b⟩
      obtain ⟨a2, c2, rfl⟩ := own_slice o
      have HB2 := hid (HB1.out.trans (b.mono HB1.out.size))
      have HO2 := hid (owns_below b (Nat.le_refl _) HO1.out)
      have OD := hid o
      have HZ := hid (And.intro HB1.out.size b.size)
      clear b o F1
      by_cases hz : N = 0
      · subst hz
        have HE := hid (H3.out (H5.out.1 rfl))
        go_wp2
        refine bodyPost_ret (v := .tuple #[.slice none 0 0, .bool false]) (by simp [results, Try.results18, go_sem]) rfl ⟨.slice none 0 0, by rw [HE.out], by rw [HE.out]; exact World.ownsRow_nil _ _ _ _, HB2.out⟩
      have qz : ((N : Int) == 0) = false := by simp; omega
      by_cases hroom : 65536 < M + N
      · have HE := hid (H4.out (by rw [HL1.out]; exact hroom))
        have q2 : (65536 : Int) - M < N := by omega
        go_wp2
        refine bodyPost_ret (v := .tuple #[.slice none 0 0, .bool false]) (by simp [results, Try.results18, go_sem]) rfl ⟨.slice none 0 0, by rw [HE.out], by rw [HE.out]; exact World.ownsRow_nil _ _ _ _, HB2.out⟩
      have HOK := hid (show (rs.take (k + 1)).all okR = true by
        rw [H2.out, HA.out, Bool.true_and]
        cases hk : okR _
        · exact absurd (H5.out.2 hk) hz
        · rfl)
      have q2 : ¬ (65536 : Int) - M < N := by omega
      obtain ⟨g2, c2', ev, rq⟩ := own_some OD.out HBB.out (by omega)
      obtain ⟨rfl, _, rfl⟩ := Value.slice.inj ev
      have RQ := hid rq
      clear ev rq
      go_wp2_with (at_builtin; refine wpList_append_own _ rfl _ _ 22 rfl w.heap.size 5 i0 (.int .u8 0) 1 1 Try.underlying22 hi hz0 hz1 hz2 rfl (by decide) _ _ _ rfl HO2.out ⟨g2, 0, none⟩ N c2 (bys Zb) rfl ?d1 RQ.out.news (bys_one _) ?d3 ?d4 HB2.out.size ?_)
      case d1 => rw [bys_length, HN.out, Nat.mul_one]
      case d3 => unfold maxLen; omega
      case d4 => omega
      intro v' w4 o4 g4 _
      obtain ⟨a4, c4, rfl⟩ := own_slice o4
      have N2 := hid (HB2.out.grown g4 HB2.out.size (fun j hj => (HO2.out.lt j hj).1))
      have N3 := hid o4
      clear o4 g4
      go_wp2
      go_roundw
      case rel => exact ⟨k + 1, M + N, a4, c4, by omega, by go_num, rfl, by omega, hid HL1.out.symm, HOK, hid (by rw [H1.out, bys_append]; exact N3.out), N2⟩
      case measure => simp [intOf]; omega
    · have hlt' : ¬ (k : Int) < (n : Int) := by omega
      have e : rs.take k = rs := List.take_of_length_le (by omega)
      have hA := HA.out
      have hMM := HM.out
      have hO := HO.out
      rw [e] at hA hMM hO
      have HE := hid (logB_yes hA (by omega))
      have O := hid hO
      have HMM := hid hMM
      clear hA hO hMM e
      go_wp2
      refine bodyPost_ret (v := .tuple #[.slice va M vc, .bool true]) (by simp [results, Try.results18, go_sem]) rfl ⟨.slice va M vc, by simp only [HE.out], ?_, HB.out⟩
      rw [HE.out]
      simp only
      rw [← HMM.out]
      exact O.out
end Go.Proofs.Ytgdnjpdheghfoaa
