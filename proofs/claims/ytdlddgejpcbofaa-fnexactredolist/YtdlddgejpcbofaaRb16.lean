/- The contract of the specification's RedoList. Conditions: at most 2^21 statuses and records; the list is no nil. -/
import Derived.Test.YtdlddgejpcbofaaRa16
import Derived.Test.YtdlddgejpcbofaaRo
import Derived.Test.YtdlddgejpcbofaaLbp
namespace Go.Proofs.Ytdlddgejpcbofaa
open Go.RowKit
set_option maxRecDepth 100000

theorem setS_bd16 {l : List Int} (h : ∀ i, -9223372036854775808 ≤ l.getD i 0 ∧ l.getD i 0 ≤ 9223372036854775807) (x s : Int) : ∀ i, -9223372036854775808 ≤ (setS l x s).getD i 0 ∧ (setS l x s).getD i 0 ≤ 9223372036854775807 := (setS_small h x s).2
set_option maxHeartbeats 12800000 in
theorem spec_RedoList {bl ol n : Nat} (cl : Nat) {l : List Int} {ad : Option Addr} {m : Nat} (cap : Nat) {rs : List Rc} (nx : Int) {w : World} (hL : ReadsI w (some ⟨bl, ol, none⟩) n l) (h : ReadsR w ad rs) (hl : rs.length = m) (hn : n ≤ 2097152) (hm : m ≤ 2097152) :
    Calls Try.prog 5 #[.slice (some ⟨bl, ol, none⟩) n cl, .slice ad m cap, .int .i64 nx] w fun e w' => ∃ v, e = .returned (.tuple #[v, .int .i64 (redoL l rs nx).2]) ∧ w'.ownsRow w.heap.size 3 1 v (redoL l rs nx).1.length (ins (redoL l rs nx).1) ∧ Below w.heap.size w w' := by
  obtain ⟨i0, hi, hz0, hz1, hz2⟩ := info_parts Try.infoI
  have hln := hL.len
  have HBd := hid hL.bd
  by_cases hbig : 401 < n
  · have hq : (401 : Int) < (n : Int) := by omega
    have HE := hid (redo_no (l := l) (rs := rs) (nx := nx) (fun q => by omega))
    go_enter Try.func5, Try.ntmps5
    go_wp2_with fail
    refine bodyPost_ret (v := .tuple #[.slice none 0 0, .int .i64 0]) (by simp [results, Try.results5, go_sem]) rfl ⟨.slice none 0 0, by rw [HE.out], by rw [HE.out]; exact World.ownsRow_nil _ _ _ _, Below.refl _ _⟩
  have hq : ¬ (401 : Int) < (n : Int) := by omega
  have HLn := hid (show l.length ≤ 401 by omega)
  have HLe := hid hln
  have HR := hid h
  have HL := hid hL
  have HRl := hid hl
  clear hL hln h hl
  go_enter Try.func5, Try.ntmps5
  go_wp2_with fail
  refine (spec_in8 nx 1 401 _).mono ?_
  rintro e w1 ⟨rfl, e1⟩
  subst w1
  by_cases hnx : 1 ≤ nx ∧ nx ≤ 401
  case neg =>
    rw [decide_eq_false hnx]
    have HE := hid (redo_no (l := l) (rs := rs) (nx := nx) (fun q => hnx ⟨q.2.1, q.2.2⟩))
    go_wp2_with fail
    refine bodyPost_ret (v := .tuple #[.slice none 0 0, .int .i64 0]) (by simp [results, Try.results5, go_sem]) rfl ⟨.slice none 0 0, by rw [HE.out], by rw [HE.out]; exact World.ownsRow_nil _ _ _ _, Below.refl _ _⟩
  rw [decide_eq_true hnx]
  have HNo := hid (fun (q : rdF rs l nx = none) => redo_none (l := l) (rs := rs) (nx := nx) q)
  have HYe := hid (fun (q : List Int × Int) (e : rdF rs l nx = some q) => redo_some (l := l) (rs := rs) (nx := nx) ⟨HLn.out, hnx⟩ e)
  have O0 := hid (World.ownsRow_lit (base := w.heap.size) (e := 3) (size := 1) w #[] 0 (Nat.le_refl _) (Nat.zero_le _) rfl)
  have bA := Below.alloc1 w (.cells #[] 3)
  have RT := hid (HL.out.below bA (Nat.le_refl _))
  have HBA := hid bA
  have HLi := hid (ins_length l)
  clear bA
  go_wp2_with (at_builtin; refine wpList_append_own _ rfl _ _ 22 rfl w.heap.size 3 i0 (.int .i64 0) 1 8 Try.underlying22 hi hz0 hz1 hz2 rfl (by decide) _ _ _ rfl O0.out ⟨bl, ol, none⟩ n cl (ins l) rfl (by rw [HLi.out, HLe.out]; try omega) RT.out.news (ins_one _) (by unfold maxLen; omega) (by omega) (by first | exact HBA.out.size | (have := HBA.out.size; have := alloc_size w (.cells #[] 3); omega)) ?_)
  intro v7 w7 o7 g7 _
  have o8 : w7.ownsRow w.heap.size 3 1 v7 n (ins l) := by simpa using o7
  obtain ⟨a7, c7, rfl, -, -⟩ := ReadsI.own o8 HBd.out
  have O7 := hid o8
  have B7 := hid (HBA.out.grown g7 HBA.out.size (fun b hb => (O0.out.lt b hb).1))
  clear o7 o8 g7 O0 RT HBA hq
  go_wp2_with fail
  go_loopw [2, 8, 9] (fun s2 s8 s9 wr => ∃ (k : Nat) (L : List Int) (y : Int) (va : Option Addr) (M vc : Nat), k ≤ m ∧ s9 = .int .i64 k ∧ s2 = .int .i64 y ∧ s8 = .slice va M vc ∧ M ≤ 401 ∧ (1 ≤ y ∧ y ≤ 401) ∧ Hid (L.length = M) ∧ Hid (rdF rs l nx = rdF (rs.drop k) L y) ∧ Hid (∀ i, -9223372036854775808 ≤ L.getD i 0 ∧ L.getD i 0 ≤ 9223372036854775807) ∧ Hid (wr.ownsRow w.heap.size 3 1 (.slice va M vc) M (ins L)) ∧ Hid (Below w.heap.size w wr)) (fun _ _ s _ => m - (intOf s).toNat)
  case atStart => exact ⟨0, l, nx, a7, n, c7, Nat.zero_le _, rfl, rfl, rfl, by omega, hnx, HLe, hid rfl, HBd, O7, B7⟩
  case round =>
    clear O7 B7 hnx
    obtain ⟨k, L, y, va, M, vc, hk, rfl, rfl, rfl, hM, hy, HLl, HRd, HLb, HO, HW⟩ := hrel
    by_cases hlt : k < m
    · have hlt' : (k : Int) < (m : Int) := by omega
      have hk0 : (0 : Int) ≤ (k : Int) := by omega
      have hkr : k < rs.length := by have := HRl.out; omega
      rcases HR.out.cells with h0 | ⟨b, off, rfl, hc⟩
      · omega
      obtain ⟨v, x1, a, c, rfl, hr0, hnil, _⟩ := hc k hkr
      have HC := hid (x1.below HW.out (Nat.le_refl _))
      obtain ⟨hc0, hc1, hc2, hc3, hc4, hc5⟩ := HC.out
      have HS1 := hid (rdF_step hkr L y)
      have HS2 := hid (rdF_bad hkr L y)
      generalize rs.getD k r0 = p at *
      obtain ⟨K, Ls, X, P, S, zs⟩ := p
      simp only [Nat.add_zero] at hc0 hc1 hc2 hc3 hc4 hc5
      obtain ⟨q, hq⟩ : ∃ q, zs.length = q := ⟨_, rfl⟩
      rw [hq] at hc5
      have HOk := hid (show okR ⟨K, Ls, X, P, S, zs⟩ = okRn K Ls X P S q by unfold okR; rw [hq])
      clear hc x1 hr0 hnil
      go_wp2_with fail
      clear hc0 hc1 hc2 hc3 hc4 hc5
      refine (spec_RecordOk K Ls X P S a q c _).mono ?_
      rintro e w2 ⟨rfl, b2⟩
      have HC2 := hid (HC.out.below b2 (Nat.le_refl _))
      have O2 := hid (owns_below b2 (Nat.le_refl _) HO.out)
      have B2 := hid (HW.out.trans (b2.mono HW.out.size))
      clear b2 HC HO HW
      cases hok : okRn K Ls X P S q with
      | false =>
        have HE := hid (HNo.out (by rw [HRd.out]; exact HS2.out (by rw [HOk.out]; exact hok)))
        clear hok
        go_wp2_with fail
        refine bodyPost_ret (v := .tuple #[.slice none 0 0, .int .i64 0]) (by simp [results, Try.results5, go_sem]) rfl ⟨.slice none 0 0, by rw [HE.out], by rw [HE.out]; exact World.ownsRow_nil _ _ _ _, B2.out⟩
      | true =>
      have hbd := okRn_bd hok
      have HSt := hid (show rdF rs l nx = rdF (rs.drop (k + 1)) (if K = 5 then setS L X 1 else L) (if y ≤ X then X + 1 else y) by rw [HRd.out]; exact HS1.out (by rw [HOk.out]; exact hok))
      clear hok HS1 HS2 HOk HRd
      obtain ⟨hc0, -, hc2, -, -, -⟩ := HC2.out
      simp only [Nat.add_zero] at hc0 hc2
      obtain ⟨y', hy'⟩ : ∃ y' : Int, (if y ≤ X then X + 1 else y) = y' := ⟨_, rfl⟩
      have hyb : 1 ≤ y' ∧ y' ≤ 401 := by rw [← hy']; split <;> omega
      rw [hy'] at HSt
      by_cases hyX : y ≤ X
      all_goals
        first
          | (rw [if_pos hyX] at hy')
          | (rw [if_neg hyX] at hy')
        subst hy'
        by_cases hK : K = 5
        · have hKq : (K == 5) = true := by simp [hK]
          rw [if_pos hK] at HSt
          clear hK
          go_wp2_with fail
          clear hc0 hc2 hKq
          refine (spec_StatusSet vc (own_readsI16 O2.out HLb.out) (own_nil16 O2.out) X 1).mono ?_
          rintro e w3 ⟨v3, rfl, o3, b3⟩
          have HB3 := hid (setS_bd16 HLb.out X 1)
          obtain ⟨a3, c3, rfl, -, -⟩ := ReadsI.own o3 HB3.out
          have O3 := hid o3
          have B3 := hid (B2.out.trans (b3.mono B2.out.size))
          have Z3 := hid B2.out.size
          have HM3 := hid (setS_len (by rw [HLl.out]; exact hM) X 1)
          clear o3 b3 O2 B2
          go_wp2_with fail
          go_roundw
          case rel => exact ⟨k + 1, setS L X 1, _, a3, _, c3, by omega, by go_num, by first | rfl | go_num, rfl, HM3.out, hyb, hid rfl, HSt, HB3, hid (owns_lower O3.out Z3.out), B3⟩
          case measure => simp [intOf]; omega
        · have hKq : (K == 5) = false := by simpa using hK
          rw [if_neg hK] at HSt
          clear hK
          go_wp2_with fail
          go_roundw
          case rel => exact ⟨k + 1, L, _, va, M, vc, by omega, by go_num, by first | rfl | go_num, rfl, hM, hyb, HLl, HSt, HLb, O2, B2⟩
          case measure => simp [intOf]; omega
    · have hlt' : ¬ (k : Int) < (m : Int) := by omega
      have HE := hid (HYe.out (L, y) (by rw [HRd.out, List.drop_eq_nil_of_le (by have := HRl.out; omega)]; rfl))
      go_wp2_with fail
      refine (spec_StatusSettle vc (own_readsI16 HO.out HLb.out) y).mono ?_
      rintro e w3 ⟨v3, rfl, o3, b3⟩
      have O3 := hid (owns_lower o3 HW.out.size)
      have B3 := hid (HW.out.trans (b3.mono HW.out.size))
      obtain ⟨a3, c3, hv3⟩ := own_form16 o3
      subst hv3
      clear o3 b3
      go_wp2_with fail
      refine bodyPost_ret (v := .tuple #[.slice a3 (settleS L y).length c3, .int .i64 y]) (by simp [results, Try.results5, go_sem]) rfl ⟨.slice a3 (settleS L y).length c3, by rw [HE.out], by rw [HE.out]; exact O3.out, B3.out⟩
end Go.Proofs.Ytdlddgejpcbofaa
