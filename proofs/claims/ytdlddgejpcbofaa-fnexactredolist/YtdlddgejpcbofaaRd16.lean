/- The contract of the program's RedoList. Conditions: at most 2^21 statuses and records; the list is no nil. -/
import Derived.Test.YtdlddgejpcbofaaRc16
namespace Go.Proofs.Ytdlddgejpcbofaa
open Go.RowKit
set_option maxRecDepth 100000

theorem impl_isNoRecord (K L X P S : Int) (ad : Option Addr) (n cap : Nat) (w : World) : Calls Try.prog 22 #[.agg #[.int .i64 K, .int .i64 L, .int .i64 X, .int .i64 P, .int .i64 S, .slice ad n cap]] w fun e w' => e = .returned (.bool (!okRn K L X P S n)) ∧ Below w.heap.size w w' := by
  have HA := hid (Below.alloc1 w (.cells #[.int .i64 K, .int .i64 L, .int .i64 X, .int .i64 P, .int .i64 S, .slice ad n cap] 41))
  go_enter Try.func22, Try.ntmps22
  go_wp2_with fail
  refine (impl_RecordOk K L X P S ad n cap _).mono ?_
  rintro e w2 ⟨rfl, b2⟩
  have HB := hid (HA.out.trans (b2.mono HA.out.size))
  clear b2 HA
  go_wp2_with fail
  go_ret
  exact ⟨rfl, HB.out⟩

set_option maxHeartbeats 3200000 in
theorem index_noRecord {ad : Option Addr} {n : Nat} (c : Nat) {rs : List Rc} {w : World} (h : ReadsR w ad rs) (hl : rs.length = n) (hn : n ≤ 2097152) :
    Calls Try.prog 29 #[.slice ad n c, .func (.func 22) #[] #[]] w fun e w' => ∃ r : Int, e = .returned (.int .i64 r) ∧ Hid ((r = -1 ∧ ∀ k, k < n → okR (rs.getD k r0) = true) ∨ (0 ≤ r ∧ ∃ k, k < rs.length ∧ okR (rs.getD k r0) = false)) ∧ Below w.heap.size w w' := by
  have HR := hid h
  have HL := hid hl
  clear h hl
  go_enter Try.func29, Try.ntmps29
  go_wp2_with fail
  go_loopw [8] (fun s wr => ∃ k : Nat, k ≤ n ∧ s = .int .i64 k ∧ Hid (∀ i, i < k → okR (rs.getD i r0) = true) ∧ Hid (Below w.heap.size w wr)) (fun s _ => n - (intOf s).toNat)
  case atStart => exact ⟨0, Nat.zero_le _, rfl, hid (fun i h => by omega), hid (Below.refl _ _)⟩
  case round =>
    obtain ⟨k, hk, rfl, HNo, HW⟩ := hrel
    by_cases hlt : k < n
    · have hlt' : (k : Int) < (n : Int) := by omega
      have hk0 : (0 : Int) ≤ (k : Int) := by omega
      have hkr : k < rs.length := by have := HL.out; omega
      rcases HR.out.cells with h0 | ⟨b, off, rfl, hc⟩
      · omega
      obtain ⟨v, x1, a, c1, rfl, hr0, hnil, _⟩ := hc k hkr
      obtain ⟨hc0, hc1, hc2, hc3, hc4, hc5⟩ := x1.below HW.out (Nat.le_refl _)
      have HOne := hid (fun q => show ∃ k, k < rs.length ∧ okR (rs.getD k r0) = false from ⟨k, hkr, q⟩)
      have HNx := hid (fun (q : okR (rs.getD k r0) = true) i (hi : i < k + 1) => show okR (rs.getD i r0) = true from by
        by_cases hc : i < k
        · exact HNo.out i hc
        · have : i = k := by omega
          subst this; exact q)
      generalize rs.getD k r0 = p at *
      obtain ⟨K, Ls, X, P, S, zs⟩ := p
      simp only [Nat.add_zero] at hc0 hc1 hc2 hc3 hc4 hc5
      obtain ⟨q, hq⟩ : ∃ q, zs.length = q := ⟨_, rfl⟩
      rw [hq] at hc5
      have HOk := hid (show okR ⟨K, Ls, X, P, S, zs⟩ = okRn K Ls X P S q by unfold okR; rw [hq])
      clear hc x1 hr0 hnil
      go_wp2_with fail
      clear hc0 hc1 hc2 hc3 hc4 hc5
      refine (impl_isNoRecord K Ls X P S a q c1 _).mono ?_
      rintro e w2 ⟨rfl, b2⟩
      have HW2 := hid (HW.out.trans (b2.mono HW.out.size))
      clear b2 HW
      cases hok : okRn K Ls X P S q with
      | false =>
        have HT := hid (HOne.out (by rw [HOk.out]; exact hok))
        clear hok
        go_wp2_with fail
        go_ret
        exact ⟨_, rfl, hid (.inr ⟨hk0, HT.out⟩), HW2.out⟩
      | true =>
        have HN2 := hid (HNx.out (by rw [HOk.out]; exact hok))
        clear hok
        go_wp2_with fail
        go_roundw
        case rel => exact ⟨k + 1, by omega, by go_num, HN2, HW2⟩
        case measure => simp [intOf]; omega
    · have hlt' : ¬ (k : Int) < (n : Int) := by omega
      have HE := hid (show ∀ i, i < n → okR (rs.getD i r0) = true from fun i hi => HNo.out i (by omega))
      go_wp2_with fail
      go_ret
      exact ⟨_, rfl, hid (.inl ⟨rfl, HE.out⟩), HW.out⟩

theorem contains_noRecord {ad : Option Addr} {n : Nat} (c : Nat) {rs : List Rc} {w : World} (h : ReadsR w ad rs) (hl : rs.length = n) (hn : n ≤ 2097152) :
    Calls Try.prog 21 #[.slice ad n c, .func (.func 22) #[] #[]] w fun e w' => ∃ b : Bool, e = .returned (.bool b) ∧ Hid ((b = false ∧ ∀ k, k < n → okR (rs.getD k r0) = true) ∨ (b = true ∧ ∃ k, k < rs.length ∧ okR (rs.getD k r0) = false)) ∧ Below w.heap.size w w' := by
  go_enter Try.func21, Try.ntmps21
  go_wp2_with fail
  refine (index_noRecord c h hl hn).mono ?_
  rintro e w1 ⟨r, rfl, hr, b⟩
  have HB := hid b
  clear b
  go_wp2_with fail
  go_ret
  refine ⟨_, rfl, hid ?_, HB.out⟩
  rcases hr.out with ⟨h0, h1⟩ | ⟨h0, h1⟩
  · exact .inl ⟨by rw [h0]; decide, h1⟩
  · exact .inr ⟨decide_eq_true h0, h1⟩

set_option maxHeartbeats 12800000 in
theorem impl_RedoList {bl ol n : Nat} (cl : Nat) {l : List Int} {ad : Option Addr} {m : Nat} (cap : Nat) {rs : List Rc} (nx : Int) {w : World} (hL : ReadsI w (some ⟨bl, ol, none⟩) n l) (h : ReadsR w ad rs) (hl : rs.length = m) (hn : n ≤ 2097152) (hm : m ≤ 2097152) (_ : ∀ i, (rs.getD i r0).D.length ≤ 2097152) (_ : -9223372036854775808 ≤ nx ∧ nx ≤ 9223372036854775807) :
    Calls Try.prog 8 #[.slice (some ⟨bl, ol, none⟩) n cl, .slice ad m cap, .int .i64 nx] w fun e w' => ∃ v, e = .returned (.tuple #[v, .int .i64 (redoL l rs nx).2]) ∧ w'.ownsRow w.heap.size 3 1 v (redoL l rs nx).1.length (ins (redoL l rs nx).1) ∧ Below w.heap.size w w' := by
  have hln := hL.len
  by_cases hbig : 401 < n
  · have hq : (401 : Int) < (n : Int) := by omega
    have HE := hid (redo_no (l := l) (rs := rs) (nx := nx) (fun q => by omega))
    clear hL h
    go_enter Try.func8, Try.ntmps8
    go_wp2_with fail
    refine bodyPost_ret (v := .tuple #[.slice none 0 0, .int .i64 0]) (by simp [results, Try.results8, go_sem]) rfl ⟨.slice none 0 0, by rw [HE.out], by rw [HE.out]; exact World.ownsRow_nil _ _ _ _, Below.refl _ _⟩
  have hq : ¬ (401 : Int) < (n : Int) := by omega
  have HLn := hid (show l.length ≤ 401 by omega)
  have HR := hid h
  have HL := hid hL
  have HRl := hid hl
  clear hL hln h hl
  go_enter Try.func8, Try.ntmps8
  go_wp2_with fail
  refine (impl_in8 nx 1 401 _).mono ?_
  rintro e w1 ⟨rfl, e1⟩
  subst w1
  by_cases hnx : 1 ≤ nx ∧ nx ≤ 401
  case neg =>
    rw [decide_eq_false hnx]
    have HE := hid (redo_no (l := l) (rs := rs) (nx := nx) (fun q => hnx ⟨q.2.1, q.2.2⟩))
    go_wp2_with fail
    refine bodyPost_ret (v := .tuple #[.slice none 0 0, .int .i64 0]) (by simp [results, Try.results8, go_sem]) rfl ⟨.slice none 0 0, by rw [HE.out], by rw [HE.out]; exact World.ownsRow_nil _ _ _ _, Below.refl _ _⟩
  rw [decide_eq_true hnx]
  go_wp2_with fail
  refine (contains_noRecord cap HR.out HRl.out hm).mono ?_
  rintro e w2 ⟨b, rfl, hb, b2⟩
  have HB := hid b2
  clear b2
  rcases hb.out with ⟨rfl, hall⟩ | ⟨rfl, k, hk, hbad⟩
  case inr =>
    have HE := hid (redo_none (l := l) (rs := rs) (nx := nx) (rdF_any rs l nx k hk hbad))
    clear hk hbad
    go_wp2_with fail
    refine bodyPost_ret (v := .tuple #[.slice none 0 0, .int .i64 0]) (by simp [results, Try.results8, go_sem]) rfl ⟨.slice none 0 0, by rw [HE.out], by rw [HE.out]; exact World.ownsRow_nil _ _ _ _, HB.out⟩
  have HAll := hid (show ∀ k, k < rs.length → okR (rs.getD k r0) = true from fun k hk => hall k (by have := HRl.out; omega))
  have HEnd := hid (redo_mk ⟨HLn.out, hnx⟩ HAll.out)
  have HZ := hid (aftF_ge rs nx)
  have HZ2 := hid (aftF_le rs nx HAll.out hnx.2)
  clear hb hall
  go_wp2_with fail
  go_loopw [8, 29] (fun s8 s29 wr => ∃ (k : Nat) (y : Int), k ≤ m ∧ s29 = .int .i64 k ∧ s8 = .int .i64 y ∧ (1 ≤ y ∧ y ≤ 401) ∧ Hid (aftF rs nx = aftF (rs.drop k) y) ∧ Hid (Below w.heap.size w wr)) (fun _ s _ => m - (intOf s).toNat)
  case atStart => exact ⟨0, nx, Nat.zero_le _, rfl, rfl, hnx, hid rfl, HB⟩
  case round =>
    clear HB hnx
    obtain ⟨k, y, hk, rfl, rfl, hy, HF, HW⟩ := hrel
    by_cases hlt : k < m
    · have hlt' : (k : Int) < (m : Int) := by omega
      have hk0 : (0 : Int) ≤ (k : Int) := by omega
      have hkr : k < rs.length := by have := HRl.out; omega
      rcases HR.out.cells with h0 | ⟨b, off, rfl, hc⟩
      · omega
      obtain ⟨v, x1, a, c1, rfl, hr0, hnil, _⟩ := hc k hkr
      obtain ⟨hc0, hc1, hc2, hc3, hc4, hc5⟩ := x1.below HW.out (Nat.le_refl _)
      have hbd := okR_bd (HAll.out k hkr)
      have HS := hid (HF.out.trans (aftF_step hkr y))
      generalize rs.getD k r0 = p at *
      obtain ⟨K, Ls, X, P, S, zs⟩ := p
      simp only [Nat.add_zero] at hc0 hc1 hc2 hc3 hc4 hc5 hbd
      have HW2 := hid (HW.out.trans ((Below.alloc1 wr (.cells #[.int .i64 K, .int .i64 Ls, .int .i64 X, .int .i64 P, .int .i64 S, .slice a zs.length c1] 41)).mono HW.out.size))
      obtain ⟨y', hy'⟩ : ∃ y' : Int, (if y ≤ X then X + 1 else y) = y' := ⟨_, rfl⟩
      have hyb : 1 ≤ y' ∧ y' ≤ 401 := by rw [← hy']; split <;> omega
      have HYm := hid (show max y (X + 1) = y' by rw [← hy']; split <;> omega)
      simp only at HS
      rw [hy'] at HS
      obtain ⟨hb0, hb1, -⟩ := hbd
      clear hc x1 hr0 hnil hy' HW HF
      go_wp2_with fail
      go_roundw
      case rel => exact ⟨k + 1, y', by omega, by go_num, by rw [← HYm.out]; congr 1; split <;> omega, hyb, HS, HW2⟩
      case measure => simp [intOf]; omega
    · have hlt' : ¬ (k : Int) < (m : Int) := by omega
      have HE := hid (show aftF rs nx = y by rw [HF.out, List.drop_eq_nil_of_le (by have := HRl.out; omega)]; rfl)
      go_wp2_with fail
      refine (impl_StatusSettle cl (HL.out.below HW.out (Nat.le_refl _)) (by omega) y).mono ?_
      rintro e w3 ⟨v3, rfl, o3, b3⟩
      have O3 := hid (owns_lower o3 HW.out.size)
      have B3 := hid (HW.out.trans (b3.mono HW.out.size))
      obtain ⟨N, rfl⟩ : ∃ N : Nat, y = N := ⟨y.toNat, by omega⟩
      have HSl := hid (show (settleS l N).length = N by rw [settleS_yes l N (by omega), upTo_length])
      obtain ⟨a3, c3, hv3⟩ := own_form16 o3
      rw [HSl.out] at hv3
      rw [HSl.out] at O3
      subst hv3
      clear o3 b3
      go_wp2_with fail
      go_loopw [44] (fun s44 wr2 => ∃ (j : Nat) (E : List Int), j ≤ m ∧ s44 = .int .i64 j ∧ Hid (E.length = N) ∧ Hid (mkF rs (settleS l N) = mkF (rs.drop j) E) ∧ Hid (wr2.ownsRow w.heap.size 3 1 (.slice a3 N c3) N (ins E)) ∧ Hid (Below w.heap.size w wr2)) (fun s _ => m - (intOf s).toNat)
      case atStart => exact ⟨0, settleS l N, Nat.zero_le _, rfl, HSl, hid rfl, O3, B3⟩
      case round =>
        clear O3 B3 hlt' hlt
        obtain ⟨j, E, hj, rfl, HEl, HM, HO, HW4⟩ := hrel
        by_cases hlt : j < m
        · have hlt' : (j : Int) < (m : Int) := by omega
          have hk0 : (0 : Int) ≤ (j : Int) := by omega
          have hkr : j < rs.length := by have := HRl.out; omega
          rcases HR.out.cells with h0 | ⟨b, off, rfl, hc⟩
          · omega
          obtain ⟨v, x1, a, c1, rfl, hr0, hnil, _⟩ := hc j hkr
          obtain ⟨hc0, hc1, hc2, hc3, hc4, hc5⟩ := x1.below HW4.out (Nat.le_refl _)
          have hbd := okR_bd (HAll.out j hkr)
          have hlt2 := HZ.out.2 j hkr
          rw [HE.out] at hlt2
          have HS := hid (HM.out.trans (mkF_step hkr E))
          generalize rs.getD j r0 = p at *
          obtain ⟨K, Ls, X, P, S, zs⟩ := p
          simp only [Nat.add_zero] at hc0 hc1 hc2 hc3 hc4 hc5 hbd hlt2
          simp only at HS
          obtain ⟨hb0, hb1, -⟩ := hbd
          obtain ⟨XX, rfl⟩ : ∃ q : Nat, X = q := ⟨X.toNat, by omega⟩
          rw [Int.toNat_natCast] at HS
          have hXN : XX < N := by omega
          have hX0 : (0 : Int) ≤ (XX : Int) := by omega
          have hXN' : (XX : Int) < (N : Int) := by omega
          have bA := Below.alloc1 wr (.cells #[.int .i64 K, .int .i64 Ls, .int .i64 XX, .int .i64 P, .int .i64 S, .slice a zs.length c1] 41)
          have hsz := HW4.out.size
          have HW5 := hid (HW4.out.trans (bA.mono hsz))
          have HO5 := hid (owns_below bA (Nat.le_refl _) HO.out)
          clear hc x1 hr0 hnil HM HW4 HO bA
          by_cases hK : K = 5
          · subst hK
            rw [if_pos rfl] at HS
            rcases HO5.out.2 with ⟨e, h0⟩ | ⟨g, cap3, cur, e, -⟩
            · omega
            obtain ⟨rfl, -, rfl⟩ := Value.slice.inj e
            have hcy : ∃ v, (wr.alloc (.cells #[.int .i64 5, .int .i64 Ls, .int .i64 XX, .int .i64 P, .int .i64 S, .slice a zs.length c1] 41)).cell? ⟨g, XX, none⟩ = some v := by
              rw [HO5.out.cellAt XX (by omega)]
              exact ⟨_, List.getElem?_eq_getElem (by rw [ins_length, HEl.out]; omega)⟩
            obtain ⟨v, hcy⟩ := hcy
            have hfr := HO5.out.frozenAt XX
            have R1 := hid (HO5.out.stored XX (.int .i64 1))
            have HE2 := hid (show (E.set XX 1).length = N by rw [List.length_set]; exact HEl.out)
            have HW6 := hid (HW5.out.setCell (show w.heap.size ≤ (⟨g, XX, none⟩ : Addr).block from (HO5.out.lt g rfl).1) (.int .i64 1))
            clear HO5 HW5 hsz
            go_wp2_with fail
            go_roundw
            case rel => exact ⟨j + 1, E.set XX 1, by omega, by go_num, HE2, HS, hid (by have := R1.out.1; rwa [ins_set] at this), HW6⟩
            case measure => simp [intOf]; omega
          · have hKq : (K == 5) = false := by simpa using hK
            rw [if_neg hK] at HS
            clear hK hsz
            go_wp2_with fail
            go_roundw
            case rel => exact ⟨j + 1, E, by omega, by go_num, HEl, HS, HO5, HW5⟩
            case measure => simp [intOf]; omega
        · have hlt' : ¬ (j : Int) < (m : Int) := by omega
          have HF2 := hid (show redoL l rs nx = (E, (N : Int)) by rw [HEnd.out, HE.out, HM.out, List.drop_eq_nil_of_le (by have := HRl.out; omega)]; rfl)
          go_wp2_with fail
          refine bodyPost_ret (v := .tuple #[.slice a3 N c3, .int .i64 N]) (by simp [results, Try.results8, go_sem]) rfl ⟨.slice a3 N c3, by rw [HF2.out], by rw [HF2.out]; simp only; rw [HEl.out]; exact HO.out, HW4.out⟩
end Go.Proofs.Ytdlddgejpcbofaa
