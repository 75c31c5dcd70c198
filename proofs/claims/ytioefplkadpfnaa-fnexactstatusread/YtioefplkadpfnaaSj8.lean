/- The contract of the model's StatusRead. Conditions: slices of at most 2^40 bytes. -/
import Derived.Test.YtioefplkadpfnaaSi8
namespace Go.Proofs.Ytioefplkadpfnaa
open Go.RowKit
set_option maxRecDepth 100000

set_option maxHeartbeats 25600000 in
theorem spec_StatusRead_yes {ad : Option Addr} {n : Nat} (cap : Nat) {b : List Int} {w : World} (h : Reads w ad n b) (N : Nat) (hN : N ≤ 401) (hn : n = (N + 3) / 4) :
    Calls Try.prog 40 #[.slice ad n cap, .int .i64 N] w fun e w' => ∃ v, e = .returned (.tuple #[v, .bool (rdOk b N)]) ∧ w'.ownsRow w.heap.size 3 1 v (rdL b N).length (ins (rdL b N)) ∧ Below w.heap.size w w' := by
  obtain ⟨i0, hi, hz0, hz1, hz2⟩ := info_parts Try.infoI
  have HR := hid h
  have HL := hid h.len
  have HX := hid hn
  have qn : ((n : Int) != ((N : Int) + 3) / 4) = false := by
    have : (n : Int) = ((N : Int) + 3) / 4 := by omega
    rw [this]; simp
  have hn1 : n ≤ 101 := by omega
  clear h
  go_enter Try.func40, Try.ntmps40
  go_wp2_with fail
  refine (spec_in8 _ _ _ w).mono ?_
  rintro e w1 ⟨rfl, e1⟩
  subst w1
  rw [decide_eq_true (by omega)]
  go_wp2_with fail
  clear qn
  go_loopw [6, 7, 8] (fun sl i _ wr => ∃ (k : Nat) (a1 : Option Addr) (c1 : Nat), k ≤ 4 * n ∧ i = .int .i64 k ∧ sl = .slice a1 (min k N) c1 ∧ Hid (wr.ownsRow w.heap.size 3 1 (.slice a1 (min k N) c1) (min k N) (ins ((List.range (min k N)).map (dz b)))) ∧ Hid (Below w.heap.size w wr) ∧ Hid (∀ i, i < k → okAt b N i)) (fun _ i _ _ => 4 * n - (intOf i).toNat)
  case atStart => exact ⟨0, none, 0, Nat.zero_le _, rfl, by rw [Nat.zero_min], hid (by rw [Nat.zero_min]; exact World.ownsRow_nil _ _ _ _), hid (Below.refl _ _), hid (fun i hi => absurd hi (Nat.not_lt_zero _))⟩
  case round =>
    obtain ⟨k, a1, c1, hk, rfl, rfl, HO1, HB1, HG⟩ := hrel
    by_cases hlt : k < 4 * n
    · have hlt' : (k : Int) < 4 * (n : Int) := by omega
      obtain ⟨j, hjk⟩ : ∃ j, k / 4 = j := ⟨_, rfl⟩
      have hj : (k : Int) / 4 = (j : Int) := by omega
      have hw : IntKind.i64.wrap (j : Int) = (j : Int) := by simp [IntKind.wrap, IntKind.bits, IntKind.signed]; omega
      have hj0 : (0 : Int) ≤ (j : Int) := by omega
      have hjn : j < n := by omega
      have hjn2 : (j : Int) < (n : Int) := by omega
      obtain ⟨bb, off, e0, hcc⟩ : ∃ bb off, ad = some ⟨bb, off, none⟩ ∧ wr.cell? ⟨bb, off + j, none⟩ = some (.int .u8 (b.getD j 0)) := by
        rcases (HR.out.below HB1.out (Nat.le_refl _)).cells with h0 | ⟨bb, off, e, hc⟩
        · omega
        · exact ⟨bb, off, e, hc j hjn⟩
      subst e0
      have hcb := HR.out.bd j
      obtain ⟨c, hc⟩ : ∃ c, b.getD j 0 = c := ⟨_, rfl⟩
      rw [hc] at hcc hcb
      have hwc : IntKind.i64.wrap c = c := by simp [IntKind.wrap, IntKind.bits, IntKind.signed]; omega
      have HC := hid hc
      have HJ := hid hjk
      clear hc hjk
      rcases (show k % 4 = 0 ∨ k % 4 = 1 ∨ k % 4 = 2 ∨ k % 4 = 3 by omega) with hm0 | hm0 | hm0 | hm0
      · have hm : (k : Int) % 4 = 0 := by omega
        have hand : bits .and .i64 (c) 3 = dz b k := by rw [and3]; unfold dz; rw [HJ.out, HC.out, hm0]; simp [bitsAt]
        have hs03 := dz_bd b k
        rcases (show dz b k = 0 ∨ dz b k = 1 ∨ dz b k = 2 ∨ dz b k = 3 by omega) with hs | hs | hs | hs
        · rw [hs] at hand
          have HD := hid hs
          clear hs hs03
          by_cases hkN : k < N
          · have q4 : (k : Int) < (N : Int) := by omega
            rw [Nat.min_eq_left (Nat.le_of_lt hkN)] at HO1
            rw [Nat.min_eq_left (Nat.le_of_lt hkN)]
            go_wp2_with (at_builtin; refine wpList_append_row rfl _ _ 38 rfl w.heap.size 3 i0 (.int .i64 0) 1 8 Try.underlying38 hi hz0 hz1 hz2 rfl (by decide) _ _ _ rfl (HO1.out.alloc _) (some ⟨wr.heap.size, 0, none⟩) 1 1 [.int .i64 0] rfl rfl (.inr ⟨_, rfl, World.news_of_block (heap_alloc_new wr _)⟩) (fun e => by cases e) (by intro u hu; simp at hu; subst hu; rfl) (by unfold maxLen; omega) (by omega) (by have := HB1.out.size; simp; omega) ?_)
            intro a3 c3 w3 o g
            have HO3 := hid (show w3.ownsRow w.heap.size 3 1 (.slice a3 (k + 1) c3) (k + 1) (ins ((List.range (k + 1)).map (dz b))) by rw [List.range_succ, List.map_append, ins_append]; simp only [List.map_cons, List.map_nil, HD.out]; exact o)
            have HB3 := hid ((HB1.out.alloc HB1.out.size _).grown g (by have := HB1.out.size; simp; omega) (fun k hk => (HO1.out.lt k hk).1))
            clear o g HO1 HB1
            go_wp2_with fail
            go_roundw
            case rel =>
              refine ⟨k + 1, a3, c3, by omega, by go_num, by rw [Nat.min_eq_left (show k + 1 ≤ N by omega)], hid ?_, HB3, hid ?_⟩
              · rw [Nat.min_eq_left (show k + 1 ≤ N by omega)]; exact HO3.out
              · intro i hi; rcases Nat.lt_succ_iff_lt_or_eq.1 hi with h1 | h1
                · exact HG.out i h1
                · subst h1; exact ⟨by rw [HD.out]; omega, fun h2 => by rw [HD.out] at h2; omega⟩
            case measure => simp [intOf]; omega
          · have q4 : ¬ (k : Int) < (N : Int) := by omega
            omega
        · rw [hs] at hand
          have HD := hid hs
          clear hs hs03
          by_cases hk0 : k = 0
          · have q5 : ((k : Int) == 0) = true := by simp [hk0]
            have HK0 := hid hk0
            clear hk0
            go_wp2_with fail
            go_ret2
            have hB := rdOk_bad (b := b) (N := N) (i := k) (by rw [HL.out]; omega) (fun q => (q.2 (by rw [HD.out]; omega)).1 HK0.out)
            rw [hB, rdL_no hB]
            exact ⟨_, rfl, World.ownsRow_nil _ _ _ _, HB1.out⟩
          · have q5 : ((k : Int) == 0) = false := by simp [hk0]
            have HK0 := hid hk0
            clear hk0
            by_cases hkN : k < N
            · have q4 : (k : Int) < (N : Int) := by omega
              have q6 : ¬ (N : Int) ≤ (k : Int) := by omega
              have hk1 := HK0.out
              rw [Nat.min_eq_left (Nat.le_of_lt hkN)] at HO1
              rw [Nat.min_eq_left (Nat.le_of_lt hkN)]
              go_wp2_with (at_builtin; refine wpList_append_row rfl _ _ 38 rfl w.heap.size 3 i0 (.int .i64 0) 1 8 Try.underlying38 hi hz0 hz1 hz2 rfl (by decide) _ _ _ rfl (HO1.out.alloc _) (some ⟨wr.heap.size, 0, none⟩) 1 1 [.int .i64 1] rfl rfl (.inr ⟨_, rfl, World.news_of_block (heap_alloc_new wr _)⟩) (fun e => by cases e) (by intro u hu; simp at hu; subst hu; rfl) (by unfold maxLen; omega) (by omega) (by have := HB1.out.size; simp; omega) ?_)
              intro a3 c3 w3 o g
              have HO3 := hid (show w3.ownsRow w.heap.size 3 1 (.slice a3 (k + 1) c3) (k + 1) (ins ((List.range (k + 1)).map (dz b))) by rw [List.range_succ, List.map_append, ins_append]; simp only [List.map_cons, List.map_nil, HD.out]; exact o)
              have HB3 := hid ((HB1.out.alloc HB1.out.size _).grown g (by have := HB1.out.size; simp; omega) (fun k hk => (HO1.out.lt k hk).1))
              clear o g HO1 HB1
              go_wp2_with fail
              go_roundw
              case rel =>
                refine ⟨k + 1, a3, c3, by omega, by go_num, by rw [Nat.min_eq_left (show k + 1 ≤ N by omega)], hid ?_, HB3, hid ?_⟩
                · rw [Nat.min_eq_left (show k + 1 ≤ N by omega)]; exact HO3.out
                · intro i hi; rcases Nat.lt_succ_iff_lt_or_eq.1 hi with h1 | h1
                  · exact HG.out i h1
                  · subst h1; exact ⟨by rw [HD.out]; omega, fun h2 => by rw [HD.out] at h2; omega⟩
              case measure => simp [intOf]; omega
            · have q6 : (N : Int) ≤ (k : Int) := by omega
              omega
        · rw [hs] at hand
          have HD := hid hs
          clear hs hs03
          by_cases hk0 : k = 0
          · have q5 : ((k : Int) == 0) = true := by simp [hk0]
            have HK0 := hid hk0
            clear hk0
            go_wp2_with fail
            go_ret2
            have hB := rdOk_bad (b := b) (N := N) (i := k) (by rw [HL.out]; omega) (fun q => (q.2 (by rw [HD.out]; omega)).1 HK0.out)
            rw [hB, rdL_no hB]
            exact ⟨_, rfl, World.ownsRow_nil _ _ _ _, HB1.out⟩
          · have q5 : ((k : Int) == 0) = false := by simp [hk0]
            have HK0 := hid hk0
            clear hk0
            by_cases hkN : k < N
            · have q4 : (k : Int) < (N : Int) := by omega
              have q6 : ¬ (N : Int) ≤ (k : Int) := by omega
              have hk1 := HK0.out
              rw [Nat.min_eq_left (Nat.le_of_lt hkN)] at HO1
              rw [Nat.min_eq_left (Nat.le_of_lt hkN)]
              go_wp2_with (at_builtin; refine wpList_append_row rfl _ _ 38 rfl w.heap.size 3 i0 (.int .i64 0) 1 8 Try.underlying38 hi hz0 hz1 hz2 rfl (by decide) _ _ _ rfl (HO1.out.alloc _) (some ⟨wr.heap.size, 0, none⟩) 1 1 [.int .i64 2] rfl rfl (.inr ⟨_, rfl, World.news_of_block (heap_alloc_new wr _)⟩) (fun e => by cases e) (by intro u hu; simp at hu; subst hu; rfl) (by unfold maxLen; omega) (by omega) (by have := HB1.out.size; simp; omega) ?_)
              intro a3 c3 w3 o g
              have HO3 := hid (show w3.ownsRow w.heap.size 3 1 (.slice a3 (k + 1) c3) (k + 1) (ins ((List.range (k + 1)).map (dz b))) by rw [List.range_succ, List.map_append, ins_append]; simp only [List.map_cons, List.map_nil, HD.out]; exact o)
              have HB3 := hid ((HB1.out.alloc HB1.out.size _).grown g (by have := HB1.out.size; simp; omega) (fun k hk => (HO1.out.lt k hk).1))
              clear o g HO1 HB1
              go_wp2_with fail
              go_roundw
              case rel =>
                refine ⟨k + 1, a3, c3, by omega, by go_num, by rw [Nat.min_eq_left (show k + 1 ≤ N by omega)], hid ?_, HB3, hid ?_⟩
                · rw [Nat.min_eq_left (show k + 1 ≤ N by omega)]; exact HO3.out
                · intro i hi; rcases Nat.lt_succ_iff_lt_or_eq.1 hi with h1 | h1
                  · exact HG.out i h1
                  · subst h1; exact ⟨by rw [HD.out]; omega, fun h2 => by rw [HD.out] at h2; omega⟩
              case measure => simp [intOf]; omega
            · have q6 : (N : Int) ≤ (k : Int) := by omega
              omega
        · rw [hs] at hand
          have HD := hid hs
          clear hs hs03
          go_wp2_with fail
          go_ret2
          have hB := rdOk_bad (b := b) (N := N) (i := k) (by rw [HL.out]; omega) (fun q => q.1 HD.out)
          rw [hB, rdL_no hB]
          exact ⟨_, rfl, World.ownsRow_nil _ _ _ _, HB1.out⟩
      · have hm : (k : Int) % 4 = 1 := by omega
        have hand : bits .and .i64 (c / 4) 3 = dz b k := by rw [and3]; unfold dz; rw [HJ.out, HC.out, hm0]; simp [bitsAt]
        have hs03 := dz_bd b k
        rcases (show dz b k = 0 ∨ dz b k = 1 ∨ dz b k = 2 ∨ dz b k = 3 by omega) with hs | hs | hs | hs
        · rw [hs] at hand
          have HD := hid hs
          clear hs hs03
          by_cases hkN : k < N
          · have q4 : (k : Int) < (N : Int) := by omega
            rw [Nat.min_eq_left (Nat.le_of_lt hkN)] at HO1
            rw [Nat.min_eq_left (Nat.le_of_lt hkN)]
            go_wp2_with (at_builtin; refine wpList_append_row rfl _ _ 38 rfl w.heap.size 3 i0 (.int .i64 0) 1 8 Try.underlying38 hi hz0 hz1 hz2 rfl (by decide) _ _ _ rfl (HO1.out.alloc _) (some ⟨wr.heap.size, 0, none⟩) 1 1 [.int .i64 0] rfl rfl (.inr ⟨_, rfl, World.news_of_block (heap_alloc_new wr _)⟩) (fun e => by cases e) (by intro u hu; simp at hu; subst hu; rfl) (by unfold maxLen; omega) (by omega) (by have := HB1.out.size; simp; omega) ?_)
            intro a3 c3 w3 o g
            have HO3 := hid (show w3.ownsRow w.heap.size 3 1 (.slice a3 (k + 1) c3) (k + 1) (ins ((List.range (k + 1)).map (dz b))) by rw [List.range_succ, List.map_append, ins_append]; simp only [List.map_cons, List.map_nil, HD.out]; exact o)
            have HB3 := hid ((HB1.out.alloc HB1.out.size _).grown g (by have := HB1.out.size; simp; omega) (fun k hk => (HO1.out.lt k hk).1))
            clear o g HO1 HB1
            go_wp2_with fail
            go_roundw
            case rel =>
              refine ⟨k + 1, a3, c3, by omega, by go_num, by rw [Nat.min_eq_left (show k + 1 ≤ N by omega)], hid ?_, HB3, hid ?_⟩
              · rw [Nat.min_eq_left (show k + 1 ≤ N by omega)]; exact HO3.out
              · intro i hi; rcases Nat.lt_succ_iff_lt_or_eq.1 hi with h1 | h1
                · exact HG.out i h1
                · subst h1; exact ⟨by rw [HD.out]; omega, fun h2 => by rw [HD.out] at h2; omega⟩
            case measure => simp [intOf]; omega
          · have q4 : ¬ (k : Int) < (N : Int) := by omega
            rw [Nat.min_eq_right (by omega)] at HO1
            rw [Nat.min_eq_right (by omega)]
            go_wp2_with fail
            go_roundw
            case rel =>
              refine ⟨k + 1, a1, c1, by omega, by go_num, by rw [Nat.min_eq_right (show N ≤ k + 1 by omega)], hid ?_, HB1, hid ?_⟩
              · rw [Nat.min_eq_right (show N ≤ k + 1 by omega)]; exact HO1.out
              · intro i hi; rcases Nat.lt_succ_iff_lt_or_eq.1 hi with h1 | h1
                · exact HG.out i h1
                · subst h1; exact ⟨by rw [HD.out]; omega, fun h2 => by rw [HD.out] at h2; omega⟩
            case measure => simp [intOf]; omega
        · rw [hs] at hand
          have HD := hid hs
          clear hs hs03
          by_cases hk0 : k = 0
          · have q5 : ((k : Int) == 0) = true := by simp [hk0]
            have HK0 := hid hk0
            clear hk0
            go_wp2_with fail
            go_ret2
            have hB := rdOk_bad (b := b) (N := N) (i := k) (by rw [HL.out]; omega) (fun q => (q.2 (by rw [HD.out]; omega)).1 HK0.out)
            rw [hB, rdL_no hB]
            exact ⟨_, rfl, World.ownsRow_nil _ _ _ _, HB1.out⟩
          · have q5 : ((k : Int) == 0) = false := by simp [hk0]
            have HK0 := hid hk0
            clear hk0
            by_cases hkN : k < N
            · have q4 : (k : Int) < (N : Int) := by omega
              have q6 : ¬ (N : Int) ≤ (k : Int) := by omega
              have hk1 := HK0.out
              rw [Nat.min_eq_left (Nat.le_of_lt hkN)] at HO1
              rw [Nat.min_eq_left (Nat.le_of_lt hkN)]
              go_wp2_with (at_builtin; refine wpList_append_row rfl _ _ 38 rfl w.heap.size 3 i0 (.int .i64 0) 1 8 Try.underlying38 hi hz0 hz1 hz2 rfl (by decide) _ _ _ rfl (HO1.out.alloc _) (some ⟨wr.heap.size, 0, none⟩) 1 1 [.int .i64 1] rfl rfl (.inr ⟨_, rfl, World.news_of_block (heap_alloc_new wr _)⟩) (fun e => by cases e) (by intro u hu; simp at hu; subst hu; rfl) (by unfold maxLen; omega) (by omega) (by have := HB1.out.size; simp; omega) ?_)
              intro a3 c3 w3 o g
              have HO3 := hid (show w3.ownsRow w.heap.size 3 1 (.slice a3 (k + 1) c3) (k + 1) (ins ((List.range (k + 1)).map (dz b))) by rw [List.range_succ, List.map_append, ins_append]; simp only [List.map_cons, List.map_nil, HD.out]; exact o)
              have HB3 := hid ((HB1.out.alloc HB1.out.size _).grown g (by have := HB1.out.size; simp; omega) (fun k hk => (HO1.out.lt k hk).1))
              clear o g HO1 HB1
              go_wp2_with fail
              go_roundw
              case rel =>
                refine ⟨k + 1, a3, c3, by omega, by go_num, by rw [Nat.min_eq_left (show k + 1 ≤ N by omega)], hid ?_, HB3, hid ?_⟩
                · rw [Nat.min_eq_left (show k + 1 ≤ N by omega)]; exact HO3.out
                · intro i hi; rcases Nat.lt_succ_iff_lt_or_eq.1 hi with h1 | h1
                  · exact HG.out i h1
                  · subst h1; exact ⟨by rw [HD.out]; omega, fun h2 => by rw [HD.out] at h2; omega⟩
              case measure => simp [intOf]; omega
            · have q6 : (N : Int) ≤ (k : Int) := by omega
              go_wp2_with fail
              go_ret2
              have hB := rdOk_bad (b := b) (N := N) (i := k) (by rw [HL.out]; omega) (fun q => hkN (q.2 (by rw [HD.out]; omega)).2)
              rw [hB, rdL_no hB]
              exact ⟨_, rfl, World.ownsRow_nil _ _ _ _, HB1.out⟩
        · rw [hs] at hand
          have HD := hid hs
          clear hs hs03
          by_cases hk0 : k = 0
          · have q5 : ((k : Int) == 0) = true := by simp [hk0]
            have HK0 := hid hk0
            clear hk0
            go_wp2_with fail
            go_ret2
            have hB := rdOk_bad (b := b) (N := N) (i := k) (by rw [HL.out]; omega) (fun q => (q.2 (by rw [HD.out]; omega)).1 HK0.out)
            rw [hB, rdL_no hB]
            exact ⟨_, rfl, World.ownsRow_nil _ _ _ _, HB1.out⟩
          · have q5 : ((k : Int) == 0) = false := by simp [hk0]
            have HK0 := hid hk0
            clear hk0
            by_cases hkN : k < N
            · have q4 : (k : Int) < (N : Int) := by omega
              have q6 : ¬ (N : Int) ≤ (k : Int) := by omega
              have hk1 := HK0.out
              rw [Nat.min_eq_left (Nat.le_of_lt hkN)] at HO1
              rw [Nat.min_eq_left (Nat.le_of_lt hkN)]
              go_wp2_with (at_builtin; refine wpList_append_row rfl _ _ 38 rfl w.heap.size 3 i0 (.int .i64 0) 1 8 Try.underlying38 hi hz0 hz1 hz2 rfl (by decide) _ _ _ rfl (HO1.out.alloc _) (some ⟨wr.heap.size, 0, none⟩) 1 1 [.int .i64 2] rfl rfl (.inr ⟨_, rfl, World.news_of_block (heap_alloc_new wr _)⟩) (fun e => by cases e) (by intro u hu; simp at hu; subst hu; rfl) (by unfold maxLen; omega) (by omega) (by have := HB1.out.size; simp; omega) ?_)
              intro a3 c3 w3 o g
              have HO3 := hid (show w3.ownsRow w.heap.size 3 1 (.slice a3 (k + 1) c3) (k + 1) (ins ((List.range (k + 1)).map (dz b))) by rw [List.range_succ, List.map_append, ins_append]; simp only [List.map_cons, List.map_nil, HD.out]; exact o)
              have HB3 := hid ((HB1.out.alloc HB1.out.size _).grown g (by have := HB1.out.size; simp; omega) (fun k hk => (HO1.out.lt k hk).1))
              clear o g HO1 HB1
              go_wp2_with fail
              go_roundw
              case rel =>
                refine ⟨k + 1, a3, c3, by omega, by go_num, by rw [Nat.min_eq_left (show k + 1 ≤ N by omega)], hid ?_, HB3, hid ?_⟩
                · rw [Nat.min_eq_left (show k + 1 ≤ N by omega)]; exact HO3.out
                · intro i hi; rcases Nat.lt_succ_iff_lt_or_eq.1 hi with h1 | h1
                  · exact HG.out i h1
                  · subst h1; exact ⟨by rw [HD.out]; omega, fun h2 => by rw [HD.out] at h2; omega⟩
              case measure => simp [intOf]; omega
            · have q6 : (N : Int) ≤ (k : Int) := by omega
              go_wp2_with fail
              go_ret2
              have hB := rdOk_bad (b := b) (N := N) (i := k) (by rw [HL.out]; omega) (fun q => hkN (q.2 (by rw [HD.out]; omega)).2)
              rw [hB, rdL_no hB]
              exact ⟨_, rfl, World.ownsRow_nil _ _ _ _, HB1.out⟩
        · rw [hs] at hand
          have HD := hid hs
          clear hs hs03
          go_wp2_with fail
          go_ret2
          have hB := rdOk_bad (b := b) (N := N) (i := k) (by rw [HL.out]; omega) (fun q => q.1 HD.out)
          rw [hB, rdL_no hB]
          exact ⟨_, rfl, World.ownsRow_nil _ _ _ _, HB1.out⟩
      · have hm : (k : Int) % 4 = 2 := by omega
        have hand : bits .and .i64 (c / 16) 3 = dz b k := by rw [and3]; unfold dz; rw [HJ.out, HC.out, hm0]; simp [bitsAt]
        have hs03 := dz_bd b k
        rcases (show dz b k = 0 ∨ dz b k = 1 ∨ dz b k = 2 ∨ dz b k = 3 by omega) with hs | hs | hs | hs
        · rw [hs] at hand
          have HD := hid hs
          clear hs hs03
          by_cases hkN : k < N
          · have q4 : (k : Int) < (N : Int) := by omega
            rw [Nat.min_eq_left (Nat.le_of_lt hkN)] at HO1
            rw [Nat.min_eq_left (Nat.le_of_lt hkN)]
            go_wp2_with (at_builtin; refine wpList_append_row rfl _ _ 38 rfl w.heap.size 3 i0 (.int .i64 0) 1 8 Try.underlying38 hi hz0 hz1 hz2 rfl (by decide) _ _ _ rfl (HO1.out.alloc _) (some ⟨wr.heap.size, 0, none⟩) 1 1 [.int .i64 0] rfl rfl (.inr ⟨_, rfl, World.news_of_block (heap_alloc_new wr _)⟩) (fun e => by cases e) (by intro u hu; simp at hu; subst hu; rfl) (by unfold maxLen; omega) (by omega) (by have := HB1.out.size; simp; omega) ?_)
            intro a3 c3 w3 o g
            have HO3 := hid (show w3.ownsRow w.heap.size 3 1 (.slice a3 (k + 1) c3) (k + 1) (ins ((List.range (k + 1)).map (dz b))) by rw [List.range_succ, List.map_append, ins_append]; simp only [List.map_cons, List.map_nil, HD.out]; exact o)
            have HB3 := hid ((HB1.out.alloc HB1.out.size _).grown g (by have := HB1.out.size; simp; omega) (fun k hk => (HO1.out.lt k hk).1))
            clear o g HO1 HB1
            go_wp2_with fail
            go_roundw
            case rel =>
              refine ⟨k + 1, a3, c3, by omega, by go_num, by rw [Nat.min_eq_left (show k + 1 ≤ N by omega)], hid ?_, HB3, hid ?_⟩
              · rw [Nat.min_eq_left (show k + 1 ≤ N by omega)]; exact HO3.out
              · intro i hi; rcases Nat.lt_succ_iff_lt_or_eq.1 hi with h1 | h1
                · exact HG.out i h1
                · subst h1; exact ⟨by rw [HD.out]; omega, fun h2 => by rw [HD.out] at h2; omega⟩
            case measure => simp [intOf]; omega
          · have q4 : ¬ (k : Int) < (N : Int) := by omega
            rw [Nat.min_eq_right (by omega)] at HO1
            rw [Nat.min_eq_right (by omega)]
            go_wp2_with fail
            go_roundw
            case rel =>
              refine ⟨k + 1, a1, c1, by omega, by go_num, by rw [Nat.min_eq_right (show N ≤ k + 1 by omega)], hid ?_, HB1, hid ?_⟩
              · rw [Nat.min_eq_right (show N ≤ k + 1 by omega)]; exact HO1.out
              · intro i hi; rcases Nat.lt_succ_iff_lt_or_eq.1 hi with h1 | h1
                · exact HG.out i h1
                · subst h1; exact ⟨by rw [HD.out]; omega, fun h2 => by rw [HD.out] at h2; omega⟩
            case measure => simp [intOf]; omega
        · rw [hs] at hand
          have HD := hid hs
          clear hs hs03
          by_cases hk0 : k = 0
          · have q5 : ((k : Int) == 0) = true := by simp [hk0]
            have HK0 := hid hk0
            clear hk0
            go_wp2_with fail
            go_ret2
            have hB := rdOk_bad (b := b) (N := N) (i := k) (by rw [HL.out]; omega) (fun q => (q.2 (by rw [HD.out]; omega)).1 HK0.out)
            rw [hB, rdL_no hB]
            exact ⟨_, rfl, World.ownsRow_nil _ _ _ _, HB1.out⟩
          · have q5 : ((k : Int) == 0) = false := by simp [hk0]
            have HK0 := hid hk0
            clear hk0
            by_cases hkN : k < N
            · have q4 : (k : Int) < (N : Int) := by omega
              have q6 : ¬ (N : Int) ≤ (k : Int) := by omega
              have hk1 := HK0.out
              rw [Nat.min_eq_left (Nat.le_of_lt hkN)] at HO1
              rw [Nat.min_eq_left (Nat.le_of_lt hkN)]
              go_wp2_with (at_builtin; refine wpList_append_row rfl _ _ 38 rfl w.heap.size 3 i0 (.int .i64 0) 1 8 Try.underlying38 hi hz0 hz1 hz2 rfl (by decide) _ _ _ rfl (HO1.out.alloc _) (some ⟨wr.heap.size, 0, none⟩) 1 1 [.int .i64 1] rfl rfl (.inr ⟨_, rfl, World.news_of_block (heap_alloc_new wr _)⟩) (fun e => by cases e) (by intro u hu; simp at hu; subst hu; rfl) (by unfold maxLen; omega) (by omega) (by have := HB1.out.size; simp; omega) ?_)
              intro a3 c3 w3 o g
              have HO3 := hid (show w3.ownsRow w.heap.size 3 1 (.slice a3 (k + 1) c3) (k + 1) (ins ((List.range (k + 1)).map (dz b))) by rw [List.range_succ, List.map_append, ins_append]; simp only [List.map_cons, List.map_nil, HD.out]; exact o)
              have HB3 := hid ((HB1.out.alloc HB1.out.size _).grown g (by have := HB1.out.size; simp; omega) (fun k hk => (HO1.out.lt k hk).1))
              clear o g HO1 HB1
              go_wp2_with fail
              go_roundw
              case rel =>
                refine ⟨k + 1, a3, c3, by omega, by go_num, by rw [Nat.min_eq_left (show k + 1 ≤ N by omega)], hid ?_, HB3, hid ?_⟩
                · rw [Nat.min_eq_left (show k + 1 ≤ N by omega)]; exact HO3.out
                · intro i hi; rcases Nat.lt_succ_iff_lt_or_eq.1 hi with h1 | h1
                  · exact HG.out i h1
                  · subst h1; exact ⟨by rw [HD.out]; omega, fun h2 => by rw [HD.out] at h2; omega⟩
              case measure => simp [intOf]; omega
            · have q6 : (N : Int) ≤ (k : Int) := by omega
              go_wp2_with fail
              go_ret2
              have hB := rdOk_bad (b := b) (N := N) (i := k) (by rw [HL.out]; omega) (fun q => hkN (q.2 (by rw [HD.out]; omega)).2)
              rw [hB, rdL_no hB]
              exact ⟨_, rfl, World.ownsRow_nil _ _ _ _, HB1.out⟩
        · rw [hs] at hand
          have HD := hid hs
          clear hs hs03
          by_cases hk0 : k = 0
          · have q5 : ((k : Int) == 0) = true := by simp [hk0]
            have HK0 := hid hk0
            clear hk0
            go_wp2_with fail
            go_ret2
            have hB := rdOk_bad (b := b) (N := N) (i := k) (by rw [HL.out]; omega) (fun q => (q.2 (by rw [HD.out]; omega)).1 HK0.out)
            rw [hB, rdL_no hB]
            exact ⟨_, rfl, World.ownsRow_nil _ _ _ _, HB1.out⟩
          · have q5 : ((k : Int) == 0) = false := by simp [hk0]
            have HK0 := hid hk0
            clear hk0
            by_cases hkN : k < N
            · have q4 : (k : Int) < (N : Int) := by omega
              have q6 : ¬ (N : Int) ≤ (k : Int) := by omega
              have hk1 := HK0.out
              rw [Nat.min_eq_left (Nat.le_of_lt hkN)] at HO1
              rw [Nat.min_eq_left (Nat.le_of_lt hkN)]
              go_wp2_with (at_builtin; refine wpList_append_row rfl _ _ 38 rfl w.heap.size 3 i0 (.int .i64 0) 1 8 Try.underlying38 hi hz0 hz1 hz2 rfl (by decide) _ _ _ rfl (HO1.out.alloc _) (some ⟨wr.heap.size, 0, none⟩) 1 1 [.int .i64 2] rfl rfl (.inr ⟨_, rfl, World.news_of_block (heap_alloc_new wr _)⟩) (fun e => by cases e) (by intro u hu; simp at hu; subst hu; rfl) (by unfold maxLen; omega) (by omega) (by have := HB1.out.size; simp; omega) ?_)
              intro a3 c3 w3 o g
              have HO3 := hid (show w3.ownsRow w.heap.size 3 1 (.slice a3 (k + 1) c3) (k + 1) (ins ((List.range (k + 1)).map (dz b))) by rw [List.range_succ, List.map_append, ins_append]; simp only [List.map_cons, List.map_nil, HD.out]; exact o)
              have HB3 := hid ((HB1.out.alloc HB1.out.size _).grown g (by have := HB1.out.size; simp; omega) (fun k hk => (HO1.out.lt k hk).1))
              clear o g HO1 HB1
              go_wp2_with fail
              go_roundw
              case rel =>
                refine ⟨k + 1, a3, c3, by omega, by go_num, by rw [Nat.min_eq_left (show k + 1 ≤ N by omega)], hid ?_, HB3, hid ?_⟩
                · rw [Nat.min_eq_left (show k + 1 ≤ N by omega)]; exact HO3.out
                · intro i hi; rcases Nat.lt_succ_iff_lt_or_eq.1 hi with h1 | h1
                  · exact HG.out i h1
                  · subst h1; exact ⟨by rw [HD.out]; omega, fun h2 => by rw [HD.out] at h2; omega⟩
              case measure => simp [intOf]; omega
            · have q6 : (N : Int) ≤ (k : Int) := by omega
              go_wp2_with fail
              go_ret2
              have hB := rdOk_bad (b := b) (N := N) (i := k) (by rw [HL.out]; omega) (fun q => hkN (q.2 (by rw [HD.out]; omega)).2)
              rw [hB, rdL_no hB]
              exact ⟨_, rfl, World.ownsRow_nil _ _ _ _, HB1.out⟩
        · rw [hs] at hand
          have HD := hid hs
          clear hs hs03
          go_wp2_with fail
          go_ret2
          have hB := rdOk_bad (b := b) (N := N) (i := k) (by rw [HL.out]; omega) (fun q => q.1 HD.out)
          rw [hB, rdL_no hB]
          exact ⟨_, rfl, World.ownsRow_nil _ _ _ _, HB1.out⟩
      · have hm : (k : Int) % 4 = 3 := by omega
        have hand : bits .and .i64 (c / 64) 3 = dz b k := by rw [and3]; unfold dz; rw [HJ.out, HC.out, hm0]; simp [bitsAt]
        have hs03 := dz_bd b k
        rcases (show dz b k = 0 ∨ dz b k = 1 ∨ dz b k = 2 ∨ dz b k = 3 by omega) with hs | hs | hs | hs
        · rw [hs] at hand
          have HD := hid hs
          clear hs hs03
          by_cases hkN : k < N
          · have q4 : (k : Int) < (N : Int) := by omega
            rw [Nat.min_eq_left (Nat.le_of_lt hkN)] at HO1
            rw [Nat.min_eq_left (Nat.le_of_lt hkN)]
            go_wp2_with (at_builtin; refine wpList_append_row rfl _ _ 38 rfl w.heap.size 3 i0 (.int .i64 0) 1 8 Try.underlying38 hi hz0 hz1 hz2 rfl (by decide) _ _ _ rfl (HO1.out.alloc _) (some ⟨wr.heap.size, 0, none⟩) 1 1 [.int .i64 0] rfl rfl (.inr ⟨_, rfl, World.news_of_block (heap_alloc_new wr _)⟩) (fun e => by cases e) (by intro u hu; simp at hu; subst hu; rfl) (by unfold maxLen; omega) (by omega) (by have := HB1.out.size; simp; omega) ?_)
            intro a3 c3 w3 o g
            have HO3 := hid (show w3.ownsRow w.heap.size 3 1 (.slice a3 (k + 1) c3) (k + 1) (ins ((List.range (k + 1)).map (dz b))) by rw [List.range_succ, List.map_append, ins_append]; simp only [List.map_cons, List.map_nil, HD.out]; exact o)
            have HB3 := hid ((HB1.out.alloc HB1.out.size _).grown g (by have := HB1.out.size; simp; omega) (fun k hk => (HO1.out.lt k hk).1))
            clear o g HO1 HB1
            go_wp2_with fail
            go_roundw
            case rel =>
              refine ⟨k + 1, a3, c3, by omega, by go_num, by rw [Nat.min_eq_left (show k + 1 ≤ N by omega)], hid ?_, HB3, hid ?_⟩
              · rw [Nat.min_eq_left (show k + 1 ≤ N by omega)]; exact HO3.out
              · intro i hi; rcases Nat.lt_succ_iff_lt_or_eq.1 hi with h1 | h1
                · exact HG.out i h1
                · subst h1; exact ⟨by rw [HD.out]; omega, fun h2 => by rw [HD.out] at h2; omega⟩
            case measure => simp [intOf]; omega
          · have q4 : ¬ (k : Int) < (N : Int) := by omega
            rw [Nat.min_eq_right (by omega)] at HO1
            rw [Nat.min_eq_right (by omega)]
            go_wp2_with fail
            go_roundw
            case rel =>
              refine ⟨k + 1, a1, c1, by omega, by go_num, by rw [Nat.min_eq_right (show N ≤ k + 1 by omega)], hid ?_, HB1, hid ?_⟩
              · rw [Nat.min_eq_right (show N ≤ k + 1 by omega)]; exact HO1.out
              · intro i hi; rcases Nat.lt_succ_iff_lt_or_eq.1 hi with h1 | h1
                · exact HG.out i h1
                · subst h1; exact ⟨by rw [HD.out]; omega, fun h2 => by rw [HD.out] at h2; omega⟩
            case measure => simp [intOf]; omega
        · rw [hs] at hand
          have HD := hid hs
          clear hs hs03
          by_cases hk0 : k = 0
          · have q5 : ((k : Int) == 0) = true := by simp [hk0]
            have HK0 := hid hk0
            clear hk0
            go_wp2_with fail
            go_ret2
            have hB := rdOk_bad (b := b) (N := N) (i := k) (by rw [HL.out]; omega) (fun q => (q.2 (by rw [HD.out]; omega)).1 HK0.out)
            rw [hB, rdL_no hB]
            exact ⟨_, rfl, World.ownsRow_nil _ _ _ _, HB1.out⟩
          · have q5 : ((k : Int) == 0) = false := by simp [hk0]
            have HK0 := hid hk0
            clear hk0
            by_cases hkN : k < N
            · have q4 : (k : Int) < (N : Int) := by omega
              have q6 : ¬ (N : Int) ≤ (k : Int) := by omega
              have hk1 := HK0.out
              rw [Nat.min_eq_left (Nat.le_of_lt hkN)] at HO1
              rw [Nat.min_eq_left (Nat.le_of_lt hkN)]
              go_wp2_with (at_builtin; refine wpList_append_row rfl _ _ 38 rfl w.heap.size 3 i0 (.int .i64 0) 1 8 Try.underlying38 hi hz0 hz1 hz2 rfl (by decide) _ _ _ rfl (HO1.out.alloc _) (some ⟨wr.heap.size, 0, none⟩) 1 1 [.int .i64 1] rfl rfl (.inr ⟨_, rfl, World.news_of_block (heap_alloc_new wr _)⟩) (fun e => by cases e) (by intro u hu; simp at hu; subst hu; rfl) (by unfold maxLen; omega) (by omega) (by have := HB1.out.size; simp; omega) ?_)
              intro a3 c3 w3 o g
              have HO3 := hid (show w3.ownsRow w.heap.size 3 1 (.slice a3 (k + 1) c3) (k + 1) (ins ((List.range (k + 1)).map (dz b))) by rw [List.range_succ, List.map_append, ins_append]; simp only [List.map_cons, List.map_nil, HD.out]; exact o)
              have HB3 := hid ((HB1.out.alloc HB1.out.size _).grown g (by have := HB1.out.size; simp; omega) (fun k hk => (HO1.out.lt k hk).1))
              clear o g HO1 HB1
              go_wp2_with fail
              go_roundw
              case rel =>
                refine ⟨k + 1, a3, c3, by omega, by go_num, by rw [Nat.min_eq_left (show k + 1 ≤ N by omega)], hid ?_, HB3, hid ?_⟩
                · rw [Nat.min_eq_left (show k + 1 ≤ N by omega)]; exact HO3.out
                · intro i hi; rcases Nat.lt_succ_iff_lt_or_eq.1 hi with h1 | h1
                  · exact HG.out i h1
                  · subst h1; exact ⟨by rw [HD.out]; omega, fun h2 => by rw [HD.out] at h2; omega⟩
              case measure => simp [intOf]; omega
            · have q6 : (N : Int) ≤ (k : Int) := by omega
              go_wp2_with fail
              go_ret2
              have hB := rdOk_bad (b := b) (N := N) (i := k) (by rw [HL.out]; omega) (fun q => hkN (q.2 (by rw [HD.out]; omega)).2)
              rw [hB, rdL_no hB]
              exact ⟨_, rfl, World.ownsRow_nil _ _ _ _, HB1.out⟩
        · rw [hs] at hand
          have HD := hid hs
          clear hs hs03
          by_cases hk0 : k = 0
          · have q5 : ((k : Int) == 0) = true := by simp [hk0]
            have HK0 := hid hk0
            clear hk0
            go_wp2_with fail
            go_ret2
            have hB := rdOk_bad (b := b) (N := N) (i := k) (by rw [HL.out]; omega) (fun q => (q.2 (by rw [HD.out]; omega)).1 HK0.out)
            rw [hB, rdL_no hB]
            exact ⟨_, rfl, World.ownsRow_nil _ _ _ _, HB1.out⟩
          · have q5 : ((k : Int) == 0) = false := by simp [hk0]
            have HK0 := hid hk0
            clear hk0
            by_cases hkN : k < N
            · have q4 : (k : Int) < (N : Int) := by omega
              have q6 : ¬ (N : Int) ≤ (k : Int) := by omega
              have hk1 := HK0.out
              rw [Nat.min_eq_left (Nat.le_of_lt hkN)] at HO1
              rw [Nat.min_eq_left (Nat.le_of_lt hkN)]
              go_wp2_with (at_builtin; refine wpList_append_row rfl _ _ 38 rfl w.heap.size 3 i0 (.int .i64 0) 1 8 Try.underlying38 hi hz0 hz1 hz2 rfl (by decide) _ _ _ rfl (HO1.out.alloc _) (some ⟨wr.heap.size, 0, none⟩) 1 1 [.int .i64 2] rfl rfl (.inr ⟨_, rfl, World.news_of_block (heap_alloc_new wr _)⟩) (fun e => by cases e) (by intro u hu; simp at hu; subst hu; rfl) (by unfold maxLen; omega) (by omega) (by have := HB1.out.size; simp; omega) ?_)
              intro a3 c3 w3 o g
              have HO3 := hid (show w3.ownsRow w.heap.size 3 1 (.slice a3 (k + 1) c3) (k + 1) (ins ((List.range (k + 1)).map (dz b))) by rw [List.range_succ, List.map_append, ins_append]; simp only [List.map_cons, List.map_nil, HD.out]; exact o)
              have HB3 := hid ((HB1.out.alloc HB1.out.size _).grown g (by have := HB1.out.size; simp; omega) (fun k hk => (HO1.out.lt k hk).1))
              clear o g HO1 HB1
              go_wp2_with fail
              go_roundw
              case rel =>
                refine ⟨k + 1, a3, c3, by omega, by go_num, by rw [Nat.min_eq_left (show k + 1 ≤ N by omega)], hid ?_, HB3, hid ?_⟩
                · rw [Nat.min_eq_left (show k + 1 ≤ N by omega)]; exact HO3.out
                · intro i hi; rcases Nat.lt_succ_iff_lt_or_eq.1 hi with h1 | h1
                  · exact HG.out i h1
                  · subst h1; exact ⟨by rw [HD.out]; omega, fun h2 => by rw [HD.out] at h2; omega⟩
              case measure => simp [intOf]; omega
            · have q6 : (N : Int) ≤ (k : Int) := by omega
              go_wp2_with fail
              go_ret2
              have hB := rdOk_bad (b := b) (N := N) (i := k) (by rw [HL.out]; omega) (fun q => hkN (q.2 (by rw [HD.out]; omega)).2)
              rw [hB, rdL_no hB]
              exact ⟨_, rfl, World.ownsRow_nil _ _ _ _, HB1.out⟩
        · rw [hs] at hand
          have HD := hid hs
          clear hs hs03
          go_wp2_with fail
          go_ret2
          have hB := rdOk_bad (b := b) (N := N) (i := k) (by rw [HL.out]; omega) (fun q => q.1 HD.out)
          rw [hB, rdL_no hB]
          exact ⟨_, rfl, World.ownsRow_nil _ _ _ _, HB1.out⟩
    · have hlt' : ¬ (k : Int) < 4 * (n : Int) := by omega
      have hkN : min k N = N := by omega
      rw [hkN] at HO1
      rw [hkN]
      go_wp2_with fail
      go_ret2
      have hB := rdOk_yes (b := b) (N := N) hN (by rw [HL.out]; exact hn) (fun i hi => HG.out i (by rw [HL.out] at hi; omega))
      rw [hB, rdL_yes hB]
      exact ⟨_, rfl, by rw [List.length_map, List.length_range]; exact HO1.out, HB1.out⟩

set_option maxHeartbeats 1600000 in
theorem spec_StatusRead {ad : Option Addr} {n : Nat} (cap : Nat) {b : List Int} {w : World} (h : Reads w ad n b) (x : Int) :
    Calls Try.prog 40 #[.slice ad n cap, .int .i64 x] w fun e w' => ∃ v, e = .returned (.tuple #[v, .bool (rdOk b x)]) ∧ w'.ownsRow w.heap.size 3 1 v (rdL b x).length (ins (rdL b x)) ∧ Below w.heap.size w w' := by
  by_cases hx : 0 ≤ x ∧ x ≤ 401
  · obtain ⟨N, rfl⟩ : ∃ N : Nat, x = N := ⟨x.toNat, by omega⟩
    by_cases hn : n = (N + 3) / 4
    · exact spec_StatusRead_yes cap h N (by omega) hn
    · have hB : rdOk b N = false := rdOk_no (by rw [h.len, Int.toNat_natCast]; exact fun q => hn q.2)
      rw [hB, rdL_no hB]
      have qn : ((n : Int) != ((N : Int) + 3) / 4) = true := by
        have : ¬ (n : Int) = ((N : Int) + 3) / 4 := by omega
        simpa using this
      have hx4 : N ≤ 401 := by omega
      clear h hB hx
      go_enter Try.func40, Try.ntmps40
      go_wp2_with fail
      refine (spec_in8 _ _ _ w).mono ?_
      rintro e w1 ⟨rfl, e1⟩
      subst w1
      rw [decide_eq_true (by omega)]
      go_wp2_with fail
      go_ret2
      exact ⟨_, rfl, World.ownsRow_nil _ _ _ _, Below.refl _ _⟩
  · have hB : rdOk b x = false := rdOk_no (fun q => hx q.1)
    rw [hB, rdL_no hB]
    clear h hB
    go_enter Try.func40, Try.ntmps40
    go_wp2_with fail
    refine (spec_in8 _ _ _ w).mono ?_
    rintro e w1 ⟨rfl, e1⟩
    subst w1
    rw [decide_eq_false hx]
    go_wp2_with fail
    go_ret2
    exact ⟨_, rfl, World.ownsRow_nil _ _ _ _, Below.refl _ _⟩
end Go.Proofs.Ytioefplkadpfnaa
