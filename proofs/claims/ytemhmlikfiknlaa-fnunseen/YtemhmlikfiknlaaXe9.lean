/- The contracts of both Horizon. Conditions: at most 2^21 snapshots of at most 2^21 numbers each. -/
import Derived.Test.YtemhmlikfiknlaaXb9
import Derived.Test.YtemhmlikfiknlaaNm9
namespace Go.Proofs.Ytemhmlikfiknlaa
open Go.RowKit
set_option maxRecDepth 100000

theorem hor_no {ps : List (Int × List Int)} {next : Int} (h : ¬ (1 ≤ next ∧ next ≤ 401)) : horP ps next = 0 := by unfold horP; rw [if_neg (fun q => h q.1)]
theorem hor_long {ps : List (Int × List Int)} {next : Int} (h : 400 < ps.length) : horP ps next = 0 := by unfold horP; rw [if_neg (fun q => by have := q.2.1; omega)]
theorem hor_bad {ps : List (Int × List Int)} {next : Int} {k : Nat} (hk : k < ps.length) (h : snapOk (ps.getD k sn0).1 (ps.getD k sn0).2 = false) : horP ps next = 0 := by
  unfold horP
  rw [if_neg]
  rintro ⟨_, _, q⟩
  have := List.all_eq_true.1 q (ps.getD k sn0) (by rw [List.getD_eq_getElem?_getD, List.getElem?_eq_getElem hk]; exact List.getElem_mem hk)
  rw [h] at this; cases this
theorem hor_yes {ps : List (Int × List Int)} {next : Int} (h1 : 1 ≤ next ∧ next ≤ 401) (h2 : ps.length ≤ 400) (h3 : ∀ k, k < ps.length → snapOk (ps.getD k sn0).1 (ps.getD k sn0).2 = true) : horP ps next = ps.foldl leastS next := by
  have hall : ps.all (fun p => snapOk p.1 p.2) = true := by
    refine List.all_eq_true.2 fun p hp => ?_
    obtain ⟨i, hi, e⟩ := List.getElem_of_mem hp
    have := h3 i hi
    rw [List.getD_eq_getElem?_getD, List.getElem?_eq_getElem hi, Option.getD_some, e] at this
    exact this
  unfold horP
  rw [if_pos ⟨h1, h2, hall⟩]
theorem fold_step (ps : List (Int × List Int)) (next : Int) (k : Nat) (hk : k < ps.length) : (ps.take (k + 1)).foldl leastS next = leastS ((ps.take k).foldl leastS next) (ps.getD k sn0) := by
  rw [List.take_add_one, List.getElem?_eq_getElem hk, Option.toList_some, List.foldl_append]
  simp [List.getD, List.getElem?_eq_getElem hk]

set_option maxHeartbeats 3200000 in
theorem spec_Horizon {ad : Option Addr} {n : Nat} (cap : Nat) {ws : List (Int × List Int)} {w : World} (h : ReadsN w ad ws) (hl : ws.length = n) (hn : n ≤ 2097152) (hb : ∀ i, (ws.getD i sn0).2.length ≤ 2097152) (next : Int) :
    Calls Try.prog 13 #[.slice ad n cap, .int .i64 next] w fun e w' => e = .returned (.int .i64 (horP ws next)) ∧ Below w.heap.size w w' := by
  by_cases hx : 1 ≤ next ∧ next ≤ 401
  · by_cases h4 : 400 < n
    · rw [hor_long (by omega)]
      have h4' : (400 : Int) < (n : Int) := by omega
      go_enter Try.func13, Try.ntmps13
      go_wp2_with fail
      refine (spec_in8 _ _ _ _).mono ?_
      rintro e w1 ⟨rfl, e1⟩
      subst w1
      rw [decide_eq_true hx]
      go_wp2_with fail
      go_ret
      exact ⟨rfl, Below.refl _ _⟩
    · have h4' : ¬ (400 : Int) < (n : Int) := by omega
      have HY := hid (fun q => hor_yes (ps := ws) (next := next) hx (by omega) q)
      have HX := hid hx
      clear hx
      go_enter Try.func13, Try.ntmps13
      go_wp2_with fail
      refine (spec_in8 _ _ _ _).mono ?_
      rintro e w1 ⟨rfl, e1⟩
      subst w1
      rw [decide_eq_true HX.out]
      go_wp2_with fail
      clear h4 h4'
      go_loopw [5, 6] (fun l i wr => ∃ k : Nat, k ≤ n ∧ i = .int .i64 k ∧ l = .int .i64 ((ws.take k).foldl leastS next) ∧ Hid (∀ j, j < k → snapOk (ws.getD j sn0).1 (ws.getD j sn0).2 = true) ∧ Hid (Below w.heap.size w wr)) (fun _ i _ => n - (intOf i).toNat)
      case atStart => exact ⟨0, Nat.zero_le _, rfl, rfl, hid (fun j hj => by omega), hid (Below.refl _ _)⟩
      case round =>
        obtain ⟨k, hk, rfl, rfl, HA, HS⟩ := hrel
        by_cases hlt : k < n
        · have hlt' : (k : Int) < (n : Int) := by omega
          have hk0 : (0 : Int) ≤ (k : Int) := by omega
          rcases h.cells with h0 | ⟨b, off, rfl, hc⟩
          · omega
          obtain ⟨hca0, v, hcx0, a, c, rfl, hr0, _, _⟩ := hc k (by omega)
          have bl := World.block_lt_of_cell? w _ hca0
          have hca := (HS.out.cell (p := ⟨b, off + k * 2, none⟩) bl).trans hca0
          have hcx := (HS.out.cell (p := ⟨b, off + k * 2 + 1, none⟩) bl).trans hcx0
          have hr := hid (hr0.below HS.out (Nat.le_refl _))
          have hlen := hb k
          have HBad := hid (hor_bad (ps := ws) (next := next) (k := k) (by omega))
          have HF := hid (fold_step ws next k (by omega))
          have HN := hid (fun (q : snapOk (ws.getD k sn0).1 (ws.getD k sn0).2 = true) (j : Nat) (hj : j < k + 1) => show snapOk (ws.getD j sn0).1 (ws.getD j sn0).2 = true from by
            by_cases e : j = k
            · subst e; exact q
            · exact HA.out j (by omega))
          generalize ws.getD k sn0 = p at hca hcx hr hlen HBad HF HN
          obtain ⟨A, zs⟩ := p
          obtain ⟨q, hq⟩ : ∃ q, zs.length = q := ⟨_, rfl⟩
          obtain ⟨M, hM⟩ : ∃ M, (ws.take k).foldl leastS next = M := ⟨_, rfl⟩
          simp only at hca hcx hlen hr HBad HN
          rw [hq] at hcx hlen hr
          rw [hM] at HF ⊢
          have BL := hid (show b < wr.heap.size from Nat.lt_of_lt_of_le bl HS.out.size)
          have HQ := hid hq
          clear hc hcx0 hr0 hca0 bl HA hM hq
          go_wp2_with fail
          refine (spec_SnapOk A c hr.out (by omega)).mono ?_
          rintro e w2 ⟨rfl, b2⟩
          cases hok : snapOk A zs with
          | false =>
            replace HS := hid (HS.out.trans (b2.mono HS.out.size))
            clear b2
            go_wp2_with fail
            go_ret
            exact ⟨by rw [HBad.out hok]; rfl, HS.out⟩
          | true =>
            replace HN := hid (HN.out hok)
            have ea := (b2.cell (p := ⟨b, off + k * 2, none⟩) BL.out).trans hca
            have ex := (b2.cell (p := ⟨b, off + k * 2 + 1, none⟩) BL.out).trans hcx
            replace HS := hid (HS.out.trans (b2.mono HS.out.size))
            replace hr := hid (hr.out.below b2 (Nat.le_refl _))
            clear b2 hca hcx BL HBad hok
            by_cases h0 : 0 < q
            · obtain ⟨b3, off3, rfl, hc3⟩ := hr.out.at h0
              rw [Nat.add_zero] at hc3
              have g0 : (0 : Int) < (q : Int) := by omega
              have HF2 := hid (show leastS M (A, zs) = let a := if A < M then A else M; if zs.getD 0 0 < a then zs.getD 0 0 else a by
                unfold leastS
                simp only
                generalize (if A < M then A else M) = a
                by_cases hh : zs.getD 0 0 < a
                · rw [if_pos ⟨by rw [HQ.out]; exact h0, hh⟩, if_pos hh]
                · rw [if_neg (fun q => hh q.2), if_neg hh])
              generalize zs.getD 0 0 = y at *
              by_cases h1 : A < M
              · by_cases h2 : y < A
                · have HV := hid (show leastS M (A, zs) = y by rw [HF2.out]; simp [h1, h2])
                  clear HF2
                  go_wp2_with fail
                  go_roundw
                  case rel => exact ⟨k + 1, by omega, by go_num, by rw [HF.out, HV.out], HN, HS⟩
                  case measure => simp [intOf]; omega
                · have HV := hid (show leastS M (A, zs) = A by rw [HF2.out]; simp [h1, h2])
                  clear HF2
                  go_wp2_with fail
                  go_roundw
                  case rel => exact ⟨k + 1, by omega, by go_num, by rw [HF.out, HV.out], HN, HS⟩
                  case measure => simp [intOf]; omega
              · by_cases h2 : y < M
                · have HV := hid (show leastS M (A, zs) = y by rw [HF2.out]; simp [h1, h2])
                  clear HF2
                  go_wp2_with fail
                  go_roundw
                  case rel => exact ⟨k + 1, by omega, by go_num, by rw [HF.out, HV.out], HN, HS⟩
                  case measure => simp [intOf]; omega
                · have HV := hid (show leastS M (A, zs) = M by rw [HF2.out]; simp [h1, h2])
                  clear HF2
                  go_wp2_with fail
                  go_roundw
                  case rel => exact ⟨k + 1, by omega, by go_num, by rw [HF.out, HV.out], HN, HS⟩
                  case measure => simp [intOf]; omega
            · have g0 : ¬ (0 : Int) < (q : Int) := by omega
              have HF2 := hid (show leastS M (A, zs) = if A < M then A else M by
                unfold leastS
                simp only
                rw [if_neg (fun q => by have := q.1; rw [HQ.out] at this; omega)])
              by_cases h1 : A < M
              · have HV := hid (show leastS M (A, zs) = A by rw [HF2.out]; simp [h1])
                clear HF2
                go_wp2_with fail
                go_roundw
                case rel => exact ⟨k + 1, by omega, by go_num, by rw [HF.out, HV.out], HN, HS⟩
                case measure => simp [intOf]; omega
              · have HV := hid (show leastS M (A, zs) = M by rw [HF2.out]; simp [h1])
                clear HF2
                go_wp2_with fail
                go_roundw
                case rel => exact ⟨k + 1, by omega, by go_num, by rw [HF.out, HV.out], HN, HS⟩
                case measure => simp [intOf]; omega
        · have hlt' : ¬ (k : Int) < (n : Int) := by omega
          have hkn : k = n := by omega
          go_wp2_with fail
          go_ret
          refine ⟨?_, HS.out⟩
          rw [HY.out (fun j hj => HA.out j (by omega)), List.take_of_length_le (by omega)]
          rfl
  · rw [hor_no hx]
    go_enter Try.func13, Try.ntmps13
    go_wp2_with fail
    refine (spec_in8 _ _ _ _).mono ?_
    rintro e w1 ⟨rfl, e1⟩
    subst w1
    rw [decide_eq_false hx]
    go_wp2_with fail
    go_ret
    exact ⟨rfl, Below.refl _ _⟩

theorem least_min {M A : Int} {zs : List Int} (h : snapOk A zs = true) : leastS M (A, zs) = if M ≤ oldS A zs then M else oldS A zs := by
  unfold leastS oldS
  simp only
  by_cases h0 : zs.length = 0
  · rw [if_pos h0, if_neg (fun q => by have := q.1; omega)]
    by_cases h1 : A < M
    · rw [if_pos h1, if_neg (by omega)]
    · rw [if_neg h1, if_pos (by omega)]
  · have hz := ((snapOk_of h).2 0 (by omega)).2
    rw [if_neg h0]
    generalize zs.getD 0 0 = y at *
    by_cases h1 : A < M
    · rw [if_pos h1, if_pos ⟨by omega, hz⟩, if_neg (by omega)]
    · rw [if_neg h1]
      by_cases h2 : M ≤ y
      · rw [if_neg (fun q => by have := q.2; omega), if_pos h2]
      · rw [if_pos ⟨by omega, by omega⟩, if_neg h2]

set_option maxHeartbeats 3200000 in
theorem impl_Horizon {ad : Option Addr} {n : Nat} (cap : Nat) {ws : List (Int × List Int)} {w : World} (h : ReadsN w ad ws) (hl : ws.length = n) (hn : n ≤ 2097152) (hb : ∀ i, (ws.getD i sn0).2.length ≤ 2097152) (next : Int) :
    Calls Try.prog 12 #[.slice ad n cap, .int .i64 next] w fun e w' => e = .returned (.int .i64 (horP ws next)) ∧ Below w.heap.size w w' := by
  by_cases hx : 1 ≤ next ∧ next ≤ 401
  · by_cases h4 : 400 < n
    · rw [hor_long (by omega)]
      have h4' : (400 : Int) < (n : Int) := by omega
      go_enter Try.func12, Try.ntmps12
      go_wp2_with fail
      refine (impl_in8 _ _ _ _).mono ?_
      rintro e w1 ⟨rfl, e1⟩
      subst w1
      rw [decide_eq_true hx]
      go_wp2_with fail
      go_ret
      exact ⟨rfl, Below.refl _ _⟩
    · have h4' : ¬ (400 : Int) < (n : Int) := by omega
      have HY := hid (fun q => hor_yes (ps := ws) (next := next) hx (by omega) q)
      have HX := hid hx
      clear hx
      go_enter Try.func12, Try.ntmps12
      go_wp2_with fail
      refine (impl_in8 _ _ _ _).mono ?_
      rintro e w1 ⟨rfl, e1⟩
      subst w1
      rw [decide_eq_true HX.out]
      go_wp2_with fail
      clear h4 h4'
      go_loopw [5, 7, 19] (fun l _ i wr => ∃ k : Nat, k ≤ n ∧ i = .int .i64 k ∧ l = .int .i64 ((ws.take k).foldl leastS next) ∧ Hid (∀ j, j < k → snapOk (ws.getD j sn0).1 (ws.getD j sn0).2 = true) ∧ Hid (Below w.heap.size w wr)) (fun _ _ i _ => n - (intOf i).toNat)
      case atStart => exact ⟨0, Nat.zero_le _, rfl, rfl, hid (fun j hj => by omega), hid (Below.refl _ _)⟩
      case round =>
        obtain ⟨k, hk, rfl, rfl, HA, HS⟩ := hrel
        by_cases hlt : k < n
        · have hlt' : (k : Int) < (n : Int) := by omega
          have hk0 : (0 : Int) ≤ (k : Int) := by omega
          rcases h.cells with h0 | ⟨b, off, rfl, hc⟩
          · omega
          obtain ⟨hca0, v, hcx0, a, c, rfl, hr0, _, _⟩ := hc k (by omega)
          have bl := World.block_lt_of_cell? w _ hca0
          have hca := (HS.out.cell (p := ⟨b, off + k * 2, none⟩) bl).trans hca0
          have hcx := (HS.out.cell (p := ⟨b, off + k * 2 + 1, none⟩) bl).trans hcx0
          have hr := hid (hr0.below HS.out (Nat.le_refl _))
          have hlen := hb k
          have HBad := hid (hor_bad (ps := ws) (next := next) (k := k) (by omega))
          have HF := hid (fold_step ws next k (by omega))
          have HN := hid (fun (q : snapOk (ws.getD k sn0).1 (ws.getD k sn0).2 = true) (j : Nat) (hj : j < k + 1) => show snapOk (ws.getD j sn0).1 (ws.getD j sn0).2 = true from by
            by_cases e : j = k
            · subst e; exact q
            · exact HA.out j (by omega))
          generalize ws.getD k sn0 = p at hca hcx hr hlen HBad HF HN
          obtain ⟨A, zs⟩ := p
          obtain ⟨q, hq⟩ : ∃ q, zs.length = q := ⟨_, rfl⟩
          obtain ⟨M, hM⟩ : ∃ M, (ws.take k).foldl leastS next = M := ⟨_, rfl⟩
          simp only at hca hcx hlen hr HBad HN
          rw [hq] at hcx hlen hr
          rw [hM] at HF ⊢
          have BO := Below.alloc1 wr (.cells #[.int .i64 A, .slice a q c] 32)
          have RB := hid (heap_alloc_new wr (.cells #[.int .i64 A, .slice a q c] 32))
          have ZB := hid (alloc_size wr (.cells #[.int .i64 A, .slice a q c] 32))
          replace hr := hid (hr.out.below BO (Nat.le_refl _))
          replace HS := hid (HS.out.trans (BO.mono HS.out.size))
          clear hc hcx0 hr0 hca0 bl HA hM hq BO
          go_wp2_with fail
          refine (impl_SnapOk A c hr.out (by omega)).mono ?_
          rintro e w2 ⟨rfl, b2⟩
          cases hok : snapOk A zs with
          | false =>
            replace HS := hid (HS.out.trans (b2.mono HS.out.size))
            clear b2
            go_wp2_with fail
            go_ret
            exact ⟨by rw [HBad.out hok]; rfl, HS.out⟩
          | true =>
            replace HN := hid (HN.out hok)
            have T2 := hid ((b2.block wr.heap.size (by rw [ZB.out]; omega)).trans RB.out)
            have ea : w2.cell? ⟨wr.heap.size, 0, none⟩ = some (.int .i64 A) := by rw [cell_of_row _ _ _ _ _ _ T2.out]; rfl
            have ex : w2.cell? ⟨wr.heap.size, 1, none⟩ = some (.slice a q c) := by rw [cell_of_row _ _ _ _ _ _ T2.out]; rfl
            replace HS := hid (HS.out.trans (b2.mono HS.out.size))
            replace hr := hid (hr.out.below b2 (Nat.le_refl _))
            have HV := hid (least_min (M := M) hok)
            clear b2 hca hcx HBad hok RB ZB T2
            go_wp2_with fail
            refine (impl_oldest A c hr.out).mono ?_
            rintro e w3 ⟨rfl, b3⟩
            replace HS := hid (HS.out.trans (b3.mono HS.out.size))
            clear b3 ea ex hr
            generalize oldS A zs = o at *
            by_cases h1 : M ≤ o
            · replace HV := hid (show leastS M (A, zs) = M by rw [HV.out, if_pos h1])
              go_wp2_with fail
              go_roundw
              case rel => exact ⟨k + 1, by omega, by go_num, by rw [HF.out, HV.out], HN, HS⟩
              case measure => simp [intOf]; omega
            · replace HV := hid (show leastS M (A, zs) = o by rw [HV.out, if_neg h1])
              go_wp2_with fail
              go_roundw
              case rel => exact ⟨k + 1, by omega, by go_num, by rw [HF.out, HV.out], HN, HS⟩
              case measure => simp [intOf]; omega
        · have hlt' : ¬ (k : Int) < (n : Int) := by omega
          have hkn : k = n := by omega
          go_wp2_with fail
          go_ret
          refine ⟨?_, HS.out⟩
          rw [HY.out (fun j hj => HA.out j (by omega)), List.take_of_length_le (by omega)]
          rfl
  · rw [hor_no hx]
    go_enter Try.func12, Try.ntmps12
    go_wp2_with fail
    refine (impl_in8 _ _ _ _).mono ?_
    rintro e w1 ⟨rfl, e1⟩
    subst w1
    rw [decide_eq_false hx]
    go_wp2_with fail
    go_ret
    exact ⟨rfl, Below.refl _ _⟩
end Go.Proofs.Ytemhmlikfiknlaa
