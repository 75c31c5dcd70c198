/- The contract of the model's StatusBytes. Conditions: lists of at most 2^40 numbers. -/
import Derived.Test.YtioefplkadpfnaaSe8
namespace Go.Proofs.Ytioefplkadpfnaa
open Go.RowKit
set_option maxRecDepth 100000

theorem bys_set8 (l : List Int) (k : Nat) (s : Int) : (bys l).set k (.int .u8 s) = bys (l.set k s) := by simp [bys, List.map_set]

set_option maxHeartbeats 12800000 in
theorem spec_StatusBytes_yes {ad : Option Addr} {n : Nat} (cap : Nat) {l : List Int} {w : World} (h : ReadsI w ad n l) (hn : n ≤ 401) :
    Calls Try.prog 36 #[.slice ad n cap] w fun e w' => ∃ v, e = .returned v ∧ w'.ownsRow w.heap.size 5 1 v (stB l).length (bys (stB l)) ∧ Below w.heap.size w w' := by
  obtain ⟨i0, hi, hz0, hz1, hz2⟩ := info_parts Try.info5
  have HR := hid h
  have hl := h.len
  have q1 : ¬ (401 : Int) < (n : Int) := by omega
  have HE := hid (show stB l = pbs l n ((n + 3) / 4) by unfold stB; rw [hl, if_pos hn])
  clear h hl
  go_enter Try.func36, Try.ntmps36
  go_wp2_with fail
  go_loopw [3, 4, 5] (fun sl i _ wr => ∃ (k : Nat) (a1 : Option Addr) (c1 : Nat), k ≤ n ∧ i = .int .i64 k ∧ sl = .slice a1 ((k + 3) / 4) c1 ∧ Hid (wr.ownsRow w.heap.size 5 1 (.slice a1 ((k + 3) / 4) c1) ((k + 3) / 4) (bys (pbs l k ((k + 3) / 4)))) ∧ Hid (Below w.heap.size w wr)) (fun _ i _ _ => n - (intOf i).toNat)
  case atStart => exact ⟨0, none, 0, Nat.zero_le _, rfl, rfl, hid (World.ownsRow_nil _ _ _ _), hid (Below.refl _ _)⟩
  case round =>
    obtain ⟨k, a1, c1, hk, rfl, rfl, HO1, HB1⟩ := hrel
    by_cases hlt : k < n
    · have hlt' : (k : Int) < (n : Int) := by omega
      obtain ⟨j, hjk⟩ : ∃ j, k / 4 = j := ⟨_, rfl⟩
      have hj : (k : Int) / 4 = (j : Int) := by omega
      have hw : IntKind.i64.wrap (j : Int) = (j : Int) := by simp [IntKind.wrap, IntKind.bits, IntKind.signed]; omega
      have hj0 : (0 : Int) ≤ (j : Int) := by omega
      have hj2 : (j : Int) < (j : Int) + 1 := by omega
      have hj3 : j < j + 1 := by omega
      have HJ := hid hjk
      clear hjk
      rcases (show k % 4 = 0 ∨ k % 4 = 1 ∨ k % 4 = 2 ∨ k % 4 = 3 by omega) with hm0 | hm0 | hm0 | hm0
      · have hm : (k : Int) % 4 = 0 := by have := HJ.out; omega
        have hor : bits .or .u8 (pb l k (j)) (stOf l (k : Int)) = pb l (k + 1) (j) := by have := pb_or l k 0 1 (by omega) (by omega); rw [HJ.out] at this; simpa using this
        have hw1 : IntKind.i64.wrap (stOf l (k : Int)) = stOf l (k : Int) := by have := stOf_bd l (k : Int); simp [IntKind.wrap, IntKind.bits, IntKind.signed]; omega
        have hw2 : IntKind.u8.wrap (stOf l (k : Int)) = stOf l (k : Int) := by have := stOf_bd l (k : Int); simp [IntKind.wrap, IntKind.bits, IntKind.signed]; omega
        go_wp2_with (at_builtin; refine wpList_append_row rfl _ _ 22 rfl w.heap.size 5 i0 (.int .u8 0) 1 1 Try.underlying22 hi hz0 hz1 hz2 rfl (by decide) _ _ _ rfl (HO1.out.alloc _) (some ⟨wr.heap.size, 0, none⟩) 1 1 [.int .u8 0] rfl ?d1 (.inr ⟨_, rfl, World.news_of_block (heap_alloc_new wr _)⟩) ?d5 ?d2 ?d3 ?d4 ?d6 ?_)
        case d1 => rfl
        case d5 => exact fun e => by cases e
        case d2 => intro u hu; simp at hu; subst hu; rfl
        case d3 => unfold maxLen; omega
        case d4 => omega
        case d6 => have := HB1.out.size; simp; omega
        intro a3 c3 w3 o g
        have e4 : (k + 3) / 4 = j := by have := HJ.out; omega
        rw [e4] at o
        have HO3 := hid (show w3.ownsRow w.heap.size 5 1 (.slice a3 (j + 1) c3) (j + 1) (bys (pbs l k (j + 1))) by have e5 := pbs_snoc l k (by omega); rw [HJ.out] at e5; rw [e5, bys_append]; exact o)
        have HB3 := hid ((HB1.out.alloc HB1.out.size _).grown g (by have := HB1.out.size; simp; omega) (fun k hk => (HO1.out.lt k hk).1))
        rw [e4]
        obtain ⟨g, eA, hgb⟩ : ∃ g, a3 = some ⟨g, 0, none⟩ ∧ w.heap.size ≤ g := by
          rcases HO3.out.2 with ⟨_, e⟩ | ⟨g, cap, cur, e, hb, _⟩
          · omega
          · exact ⟨g, (Value.slice.inj e).1, hb⟩
        subst eA
        have hc : w3.cell? ⟨g, j, none⟩ = some (.int .u8 (pb l k (j))) := by rw [HO3.out.cellAt (j) (by omega)]; simp [bys, pbs]
        have hfr : w3.drew.frozen? ⟨g, j, none⟩ = false := ((Still.drew _).frozen _).trans (HO3.out.frozenAt _)
        have HR1 := hid (HR.out.below HB3.out (Nat.le_refl _))
        have R1 := hid (HO3.out.stored (j) (.int .u8 (pb l (k + 1) (j))))
        clear HO1 HB1
        clear o
        go_wp2_with fail
        refine region_K 16 (fun X => X.cell? ⟨g, j, none⟩ = some (.int .u8 (pb l k (j)))) (by kernel_rfl) ?_ (fun hHeld => ?_)
        · exact ((Still.drew w3).cell _).trans hc
        refine anyK_take (i := 0) (v := ?v401) rfl (by kernel_rfl) (by kernel_rfl) (by kernel_rfl) (by kernel_rfl) (fun _ _ _ h => h) (by rfl) hHeld ?hy401 (some 26) (by rfl) ?rest401
        case hy401 => (intro W hSw; (try dsimp only at hSw); go_simp; (try with_reducible rfl))
        try simp only [Act.put]
        try simp only [List.setIfInBounds_toArray]
        try simp only [List.set_cons_succ, List.set_cons_zero]
        refine anyK_take (i := 1) (v := ?v402) rfl (by kernel_rfl) (by kernel_rfl) (by kernel_rfl) (by kernel_rfl) (fun _ _ _ h => h) (by rfl) hHeld ?hy402 (some 27) (by rfl) ?rest402
        case hy402 => (intro W hSw; (try dsimp only at hSw); go_simp; (try with_reducible rfl))
        try simp only [Act.put]
        try simp only [List.setIfInBounds_toArray]
        try simp only [List.set_cons_succ, List.set_cons_zero]
        refine anyK_take (i := 2) (v := ?v403) rfl (by kernel_rfl) (by kernel_rfl) (by kernel_rfl) (by kernel_rfl) (fun _ _ _ h => h) (by rfl) hHeld ?hy403 (some 28) (by rfl) ?rest403
        case hy403 => (intro W hSw; (try dsimp only at hSw); go_simp; (try with_reducible rfl))
        try simp only [Act.put]
        try simp only [List.setIfInBounds_toArray]
        try simp only [List.set_cons_succ, List.set_cons_zero]
        refine anyK_take (i := 3) (v := ?v404) rfl (by kernel_rfl) (by kernel_rfl) (by kernel_rfl) (by kernel_rfl) (fun _ _ _ h => h) (by rfl) hHeld ?hy404 (some 29) (by rfl) ?rest404
        case hy404 => (intro W hSw; (try dsimp only at hSw); go_simp; (try with_reducible rfl))
        try simp only [Act.put]
        try simp only [List.setIfInBounds_toArray]
        try simp only [List.set_cons_succ, List.set_cons_zero]
        refine anyK_take (i := 4) (v := ?v405) rfl (by kernel_rfl) (by kernel_rfl) (by kernel_rfl) (by kernel_rfl) (fun _ _ _ h => h) (by rfl) hHeld ?hy405 (some 30) (by rfl) ?rest405
        case hy405 => (intro W hSw; (try dsimp only at hSw); go_simp; (try with_reducible rfl))
        try simp only [Act.put]
        try simp only [List.setIfInBounds_toArray]
        try simp only [List.set_cons_succ, List.set_cons_zero]
        refine anyK_take (i := 5) (v := ?v406) rfl (by kernel_rfl) (by kernel_rfl) (by kernel_rfl) (by kernel_rfl) (fun _ _ _ h => h) (by rfl) hHeld ?hy406 (some 31) (by rfl) ?rest406
        case hy406 => (intro W hSw; (try dsimp only at hSw); go_simp; (try with_reducible rfl))
        try simp only [Act.put]
        try simp only [List.setIfInBounds_toArray]
        try simp only [List.set_cons_succ, List.set_cons_zero]
        refine anyK_take (i := 6) (v := ?v407) rfl (by kernel_rfl) (by kernel_rfl) (by kernel_rfl) (by kernel_rfl) (fun _ _ _ h => h) (by rfl) hHeld ?hy407 (some 32) (by rfl) ?rest407
        case hy407 => (intro W hSw; (try dsimp only at hSw); go_simp; (try with_reducible rfl))
        try simp only [Act.put]
        try simp only [List.setIfInBounds_toArray]
        try simp only [List.set_cons_succ, List.set_cons_zero]
        refine anyK_take (i := 7) (v := ?v408) rfl (by kernel_rfl) (by kernel_rfl) (by kernel_rfl) (by kernel_rfl) (fun _ _ _ h => h) (by rfl) hHeld ?hy408 (some 33) (by rfl) ?rest408
        case hy408 => (intro W hSw; (try dsimp only at hSw); go_simp; (try with_reducible rfl))
        try simp only [Act.put]
        try simp only [List.setIfInBounds_toArray]
        try simp only [List.set_cons_succ, List.set_cons_zero]
        refine anyK_take (i := 8) (v := ?v409) rfl (by kernel_rfl) (by kernel_rfl) (by kernel_rfl) (by kernel_rfl) (fun _ _ _ h => h) (by rfl) hHeld ?hy409 (some 34) (by rfl) ?rest409
        case hy409 => (intro W hSw; (try dsimp only at hSw); go_simp; (try with_reducible rfl))
        try simp only [Act.put]
        try simp only [List.setIfInBounds_toArray]
        try simp only [List.set_cons_succ, List.set_cons_zero]
        refine anyK_take (i := 9) (v := ?v410) rfl (by kernel_rfl) (by kernel_rfl) (by kernel_rfl) (by kernel_rfl) (fun _ _ _ h => h) (by rfl) hHeld ?hy410 (some 35) (by rfl) ?rest410
        case hy410 => (intro W hSw; (try dsimp only at hSw); go_simp; (try with_reducible rfl))
        try simp only [Act.put]
        try simp only [List.setIfInBounds_toArray]
        try simp only [List.set_cons_succ, List.set_cons_zero]
        refine anyK_take (i := 11) (v := ?v411) rfl (by kernel_rfl) (by kernel_rfl) (by kernel_rfl) (by kernel_rfl) (fun _ _ _ h => h) (by rfl) hHeld ?hy411 (some 37) (by rfl) ?rest411
        case hy411 => (intro W hSw; (try dsimp only at hSw); go_simp; (try with_reducible rfl))
        try simp only [Act.put]
        try simp only [List.setIfInBounds_toArray]
        try simp only [List.set_cons_succ, List.set_cons_zero]
        refine anyK_step (i := 10) (by kernel_rfl) rfl (fun KP hK => ?_)
        go_simp
        refine (spec_StatusOf cap ((Still.drew w3).readsI HR1.out) k).mono ?_
        rintro e w1 ⟨rfl, e1⟩
        subst w1
        go_wp2_with fail
        refine hK.out _ _ ?_ (fun hH2 => ?_)
        · exact hHeld
        clear hK KP hHeld
        have hHeld := hH2
        clear hH2
        try simp only [Act.put]
        try simp only [List.setIfInBounds_toArray]
        try simp only [List.set_cons_succ, List.set_cons_zero]
        refine anyK_take (i := 12) (v := ?v412) rfl (by kernel_rfl) (by kernel_rfl) (by kernel_rfl) (by kernel_rfl) (fun _ _ _ h => h) (by rfl) hHeld ?hy412 (some 38) (by rfl) ?rest412
        case hy412 => (intro W hSw; (try dsimp only at hSw); go_simp; (try with_reducible rfl))
        try simp only [Act.put]
        try simp only [List.setIfInBounds_toArray]
        try simp only [List.set_cons_succ, List.set_cons_zero]
        refine anyK_take (i := 13) (v := ?v413) rfl (by kernel_rfl) (by kernel_rfl) (by kernel_rfl) (by kernel_rfl) (fun _ _ _ h => h) (by rfl) hHeld ?hy413 (some 39) (by rfl) ?rest413
        case hy413 => (intro W hSw; (try dsimp only at hSw); go_simp; (try with_reducible rfl))
        try simp only [Act.put]
        try simp only [List.setIfInBounds_toArray]
        try simp only [List.set_cons_succ, List.set_cons_zero]
        refine anyK_take (i := 14) (v := ?v414) rfl (by kernel_rfl) (by kernel_rfl) (by kernel_rfl) (by kernel_rfl) (fun _ _ _ h => h) (by rfl) hHeld ?hy414 (some 40) (by rfl) ?rest414
        case hy414 => (intro W hSw; (try dsimp only at hSw); go_simp; (try with_reducible rfl))
        try simp only [Act.put]
        try simp only [List.setIfInBounds_toArray]
        try simp only [List.set_cons_succ, List.set_cons_zero]
        refine anyK_take (i := 15) (v := ?v415) rfl (by kernel_rfl) (by kernel_rfl) (by kernel_rfl) (by kernel_rfl) (fun _ _ _ h => h) (by rfl) hHeld ?hy415 (some 41) (by rfl) ?rest415
        case hy415 => (intro W hSw; (try dsimp only at hSw); go_simp; (try with_reducible rfl))
        try simp only [Act.put]
        try simp only [List.setIfInBounds_toArray]
        try simp only [List.set_cons_succ, List.set_cons_zero]
        refine anyK_last (by kernel_rfl) rfl (fun KP hK => ?_)
        go_simp
        refine hK.out _ _ ?_
        clear hK KP hHeld
        refine anyK_done (by kernel_rfl) ?_ _
        go_wp2_with fail
        go_roundw
        case rel =>
          refine ⟨k + 1, _, c3, by omega, by go_num, by rw [show (k + 1 + 3) / 4 = j + 1 by have := HJ.out; omega], hid ?_, hid ?_⟩
          · rw [show (k + 1 + 3) / 4 = j + 1 by have := HJ.out; omega]
            have o3 := R1.out.1
            have e6 := pbs_set l k (j + 1)
            rw [HJ.out] at e6
            rw [bys_set8, e6] at o3
            exact (Still.drew _).owns o3
          · exact (HB3.out.setCell hgb _).trans ((Still.drew _).below _)
        case measure => simp [intOf]; omega
      · have hm : (k : Int) % 4 = 1 := by have := HJ.out; omega
        have hor : bits .or .u8 (pb l k (j)) (stOf l (k : Int) * 4) = pb l (k + 1) (j) := by have := pb_or l k 1 4 (by omega) (by omega); rw [HJ.out] at this; simpa using this
        have hw1 : IntKind.i64.wrap (stOf l (k : Int) * 4) = stOf l (k : Int) * 4 := by have := stOf_bd l (k : Int); simp [IntKind.wrap, IntKind.bits, IntKind.signed]; omega
        have hw2 : IntKind.u8.wrap (stOf l (k : Int) * 4) = stOf l (k : Int) * 4 := by have := stOf_bd l (k : Int); simp [IntKind.wrap, IntKind.bits, IntKind.signed]; omega
        have e4 : (k + 3) / 4 = j + 1 := by have := HJ.out; omega
        rw [e4] at HO1
        have HO3 := HO1
        have HB3 := HB1
        rw [e4]
        obtain ⟨g, eA, hgb⟩ : ∃ g, a1 = some ⟨g, 0, none⟩ ∧ w.heap.size ≤ g := by
          rcases HO3.out.2 with ⟨_, e⟩ | ⟨g, cap, cur, e, hb, _⟩
          · omega
          · exact ⟨g, (Value.slice.inj e).1, hb⟩
        subst eA
        have hc : wr.cell? ⟨g, j, none⟩ = some (.int .u8 (pb l k (j))) := by rw [HO3.out.cellAt (j) (by omega)]; simp [bys, pbs]
        have hfr : wr.drew.frozen? ⟨g, j, none⟩ = false := ((Still.drew _).frozen _).trans (HO3.out.frozenAt _)
        have HR1 := hid (HR.out.below HB3.out (Nat.le_refl _))
        have R1 := hid (HO3.out.stored (j) (.int .u8 (pb l (k + 1) (j))))
        clear HO1 HB1
        go_wp2_with fail
        refine region_K 16 (fun X => X.cell? ⟨g, j, none⟩ = some (.int .u8 (pb l k (j)))) (by kernel_rfl) ?_ (fun hHeld => ?_)
        · exact ((Still.drew wr).cell _).trans hc
        refine anyK_take (i := 0) (v := ?v416) rfl (by kernel_rfl) (by kernel_rfl) (by kernel_rfl) (by kernel_rfl) (fun _ _ _ h => h) (by rfl) hHeld ?hy416 (some 26) (by rfl) ?rest416
        case hy416 => (intro W hSw; (try dsimp only at hSw); go_simp; (try with_reducible rfl))
        try simp only [Act.put]
        try simp only [List.setIfInBounds_toArray]
        try simp only [List.set_cons_succ, List.set_cons_zero]
        refine anyK_take (i := 1) (v := ?v417) rfl (by kernel_rfl) (by kernel_rfl) (by kernel_rfl) (by kernel_rfl) (fun _ _ _ h => h) (by rfl) hHeld ?hy417 (some 27) (by rfl) ?rest417
        case hy417 => (intro W hSw; (try dsimp only at hSw); go_simp; (try with_reducible rfl))
        try simp only [Act.put]
        try simp only [List.setIfInBounds_toArray]
        try simp only [List.set_cons_succ, List.set_cons_zero]
        refine anyK_take (i := 2) (v := ?v418) rfl (by kernel_rfl) (by kernel_rfl) (by kernel_rfl) (by kernel_rfl) (fun _ _ _ h => h) (by rfl) hHeld ?hy418 (some 28) (by rfl) ?rest418
        case hy418 => (intro W hSw; (try dsimp only at hSw); go_simp; (try with_reducible rfl))
        try simp only [Act.put]
        try simp only [List.setIfInBounds_toArray]
        try simp only [List.set_cons_succ, List.set_cons_zero]
        refine anyK_take (i := 3) (v := ?v419) rfl (by kernel_rfl) (by kernel_rfl) (by kernel_rfl) (by kernel_rfl) (fun _ _ _ h => h) (by rfl) hHeld ?hy419 (some 29) (by rfl) ?rest419
        case hy419 => (intro W hSw; (try dsimp only at hSw); go_simp; (try with_reducible rfl))
        try simp only [Act.put]
        try simp only [List.setIfInBounds_toArray]
        try simp only [List.set_cons_succ, List.set_cons_zero]
        refine anyK_take (i := 4) (v := ?v420) rfl (by kernel_rfl) (by kernel_rfl) (by kernel_rfl) (by kernel_rfl) (fun _ _ _ h => h) (by rfl) hHeld ?hy420 (some 30) (by rfl) ?rest420
        case hy420 => (intro W hSw; (try dsimp only at hSw); go_simp; (try with_reducible rfl))
        try simp only [Act.put]
        try simp only [List.setIfInBounds_toArray]
        try simp only [List.set_cons_succ, List.set_cons_zero]
        refine anyK_take (i := 5) (v := ?v421) rfl (by kernel_rfl) (by kernel_rfl) (by kernel_rfl) (by kernel_rfl) (fun _ _ _ h => h) (by rfl) hHeld ?hy421 (some 31) (by rfl) ?rest421
        case hy421 => (intro W hSw; (try dsimp only at hSw); go_simp; (try with_reducible rfl))
        try simp only [Act.put]
        try simp only [List.setIfInBounds_toArray]
        try simp only [List.set_cons_succ, List.set_cons_zero]
        refine anyK_take (i := 6) (v := ?v422) rfl (by kernel_rfl) (by kernel_rfl) (by kernel_rfl) (by kernel_rfl) (fun _ _ _ h => h) (by rfl) hHeld ?hy422 (some 32) (by rfl) ?rest422
        case hy422 => (intro W hSw; (try dsimp only at hSw); go_simp; (try with_reducible rfl))
        try simp only [Act.put]
        try simp only [List.setIfInBounds_toArray]
        try simp only [List.set_cons_succ, List.set_cons_zero]
        refine anyK_take (i := 7) (v := ?v423) rfl (by kernel_rfl) (by kernel_rfl) (by kernel_rfl) (by kernel_rfl) (fun _ _ _ h => h) (by rfl) hHeld ?hy423 (some 33) (by rfl) ?rest423
        case hy423 => (intro W hSw; (try dsimp only at hSw); go_simp; (try with_reducible rfl))
        try simp only [Act.put]
        try simp only [List.setIfInBounds_toArray]
        try simp only [List.set_cons_succ, List.set_cons_zero]
        refine anyK_take (i := 8) (v := ?v424) rfl (by kernel_rfl) (by kernel_rfl) (by kernel_rfl) (by kernel_rfl) (fun _ _ _ h => h) (by rfl) hHeld ?hy424 (some 34) (by rfl) ?rest424
        case hy424 => (intro W hSw; (try dsimp only at hSw); go_simp; (try with_reducible rfl))
        try simp only [Act.put]
        try simp only [List.setIfInBounds_toArray]
        try simp only [List.set_cons_succ, List.set_cons_zero]
        refine anyK_take (i := 9) (v := ?v425) rfl (by kernel_rfl) (by kernel_rfl) (by kernel_rfl) (by kernel_rfl) (fun _ _ _ h => h) (by rfl) hHeld ?hy425 (some 35) (by rfl) ?rest425
        case hy425 => (intro W hSw; (try dsimp only at hSw); go_simp; (try with_reducible rfl))
        try simp only [Act.put]
        try simp only [List.setIfInBounds_toArray]
        try simp only [List.set_cons_succ, List.set_cons_zero]
        refine anyK_take (i := 11) (v := ?v426) rfl (by kernel_rfl) (by kernel_rfl) (by kernel_rfl) (by kernel_rfl) (fun _ _ _ h => h) (by rfl) hHeld ?hy426 (some 37) (by rfl) ?rest426
        case hy426 => (intro W hSw; (try dsimp only at hSw); go_simp; (try with_reducible rfl))
        try simp only [Act.put]
        try simp only [List.setIfInBounds_toArray]
        try simp only [List.set_cons_succ, List.set_cons_zero]
        refine anyK_step (i := 10) (by kernel_rfl) rfl (fun KP hK => ?_)
        go_simp
        refine (spec_StatusOf cap ((Still.drew wr).readsI HR1.out) k).mono ?_
        rintro e w1 ⟨rfl, e1⟩
        subst w1
        go_wp2_with fail
        refine hK.out _ _ ?_ (fun hH2 => ?_)
        · exact hHeld
        clear hK KP hHeld
        have hHeld := hH2
        clear hH2
        try simp only [Act.put]
        try simp only [List.setIfInBounds_toArray]
        try simp only [List.set_cons_succ, List.set_cons_zero]
        refine anyK_take (i := 12) (v := ?v427) rfl (by kernel_rfl) (by kernel_rfl) (by kernel_rfl) (by kernel_rfl) (fun _ _ _ h => h) (by rfl) hHeld ?hy427 (some 38) (by rfl) ?rest427
        case hy427 => (intro W hSw; (try dsimp only at hSw); go_simp; (try with_reducible rfl))
        try simp only [Act.put]
        try simp only [List.setIfInBounds_toArray]
        try simp only [List.set_cons_succ, List.set_cons_zero]
        refine anyK_take (i := 13) (v := ?v428) rfl (by kernel_rfl) (by kernel_rfl) (by kernel_rfl) (by kernel_rfl) (fun _ _ _ h => h) (by rfl) hHeld ?hy428 (some 39) (by rfl) ?rest428
        case hy428 => (intro W hSw; (try dsimp only at hSw); go_simp; (try with_reducible rfl))
        try simp only [Act.put]
        try simp only [List.setIfInBounds_toArray]
        try simp only [List.set_cons_succ, List.set_cons_zero]
        refine anyK_take (i := 14) (v := ?v429) rfl (by kernel_rfl) (by kernel_rfl) (by kernel_rfl) (by kernel_rfl) (fun _ _ _ h => h) (by rfl) hHeld ?hy429 (some 40) (by rfl) ?rest429
        case hy429 => (intro W hSw; (try dsimp only at hSw); go_simp; (try with_reducible rfl))
        try simp only [Act.put]
        try simp only [List.setIfInBounds_toArray]
        try simp only [List.set_cons_succ, List.set_cons_zero]
        refine anyK_take (i := 15) (v := ?v430) rfl (by kernel_rfl) (by kernel_rfl) (by kernel_rfl) (by kernel_rfl) (fun _ _ _ h => h) (by rfl) hHeld ?hy430 (some 41) (by rfl) ?rest430
        case hy430 => (intro W hSw; (try dsimp only at hSw); go_simp; (try with_reducible rfl))
        try simp only [Act.put]
        try simp only [List.setIfInBounds_toArray]
        try simp only [List.set_cons_succ, List.set_cons_zero]
        refine anyK_last (by kernel_rfl) rfl (fun KP hK => ?_)
        go_simp
        refine hK.out _ _ ?_
        clear hK KP hHeld
        refine anyK_done (by kernel_rfl) ?_ _
        go_wp2_with fail
        go_roundw
        case rel =>
          refine ⟨k + 1, _, c1, by omega, by go_num, by rw [show (k + 1 + 3) / 4 = j + 1 by have := HJ.out; omega], hid ?_, hid ?_⟩
          · rw [show (k + 1 + 3) / 4 = j + 1 by have := HJ.out; omega]
            have o3 := R1.out.1
            have e6 := pbs_set l k (j + 1)
            rw [HJ.out] at e6
            rw [bys_set8, e6] at o3
            exact (Still.drew _).owns o3
          · exact (HB3.out.setCell hgb _).trans ((Still.drew _).below _)
        case measure => simp [intOf]; omega
      · have hm : (k : Int) % 4 = 2 := by have := HJ.out; omega
        have hor : bits .or .u8 (pb l k (j)) (stOf l (k : Int) * 16) = pb l (k + 1) (j) := by have := pb_or l k 2 16 (by omega) (by omega); rw [HJ.out] at this; simpa using this
        have hw1 : IntKind.i64.wrap (stOf l (k : Int) * 16) = stOf l (k : Int) * 16 := by have := stOf_bd l (k : Int); simp [IntKind.wrap, IntKind.bits, IntKind.signed]; omega
        have hw2 : IntKind.u8.wrap (stOf l (k : Int) * 16) = stOf l (k : Int) * 16 := by have := stOf_bd l (k : Int); simp [IntKind.wrap, IntKind.bits, IntKind.signed]; omega
        have e4 : (k + 3) / 4 = j + 1 := by have := HJ.out; omega
        rw [e4] at HO1
        have HO3 := HO1
        have HB3 := HB1
        rw [e4]
        obtain ⟨g, eA, hgb⟩ : ∃ g, a1 = some ⟨g, 0, none⟩ ∧ w.heap.size ≤ g := by
          rcases HO3.out.2 with ⟨_, e⟩ | ⟨g, cap, cur, e, hb, _⟩
          · omega
          · exact ⟨g, (Value.slice.inj e).1, hb⟩
        subst eA
        have hc : wr.cell? ⟨g, j, none⟩ = some (.int .u8 (pb l k (j))) := by rw [HO3.out.cellAt (j) (by omega)]; simp [bys, pbs]
        have hfr : wr.drew.frozen? ⟨g, j, none⟩ = false := ((Still.drew _).frozen _).trans (HO3.out.frozenAt _)
        have HR1 := hid (HR.out.below HB3.out (Nat.le_refl _))
        have R1 := hid (HO3.out.stored (j) (.int .u8 (pb l (k + 1) (j))))
        clear HO1 HB1
        go_wp2_with fail
        refine region_K 16 (fun X => X.cell? ⟨g, j, none⟩ = some (.int .u8 (pb l k (j)))) (by kernel_rfl) ?_ (fun hHeld => ?_)
        · exact ((Still.drew wr).cell _).trans hc
        refine anyK_take (i := 0) (v := ?v431) rfl (by kernel_rfl) (by kernel_rfl) (by kernel_rfl) (by kernel_rfl) (fun _ _ _ h => h) (by rfl) hHeld ?hy431 (some 26) (by rfl) ?rest431
        case hy431 => (intro W hSw; (try dsimp only at hSw); go_simp; (try with_reducible rfl))
        try simp only [Act.put]
        try simp only [List.setIfInBounds_toArray]
        try simp only [List.set_cons_succ, List.set_cons_zero]
        refine anyK_take (i := 1) (v := ?v432) rfl (by kernel_rfl) (by kernel_rfl) (by kernel_rfl) (by kernel_rfl) (fun _ _ _ h => h) (by rfl) hHeld ?hy432 (some 27) (by rfl) ?rest432
        case hy432 => (intro W hSw; (try dsimp only at hSw); go_simp; (try with_reducible rfl))
        try simp only [Act.put]
        try simp only [List.setIfInBounds_toArray]
        try simp only [List.set_cons_succ, List.set_cons_zero]
        refine anyK_take (i := 2) (v := ?v433) rfl (by kernel_rfl) (by kernel_rfl) (by kernel_rfl) (by kernel_rfl) (fun _ _ _ h => h) (by rfl) hHeld ?hy433 (some 28) (by rfl) ?rest433
        case hy433 => (intro W hSw; (try dsimp only at hSw); go_simp; (try with_reducible rfl))
        try simp only [Act.put]
        try simp only [List.setIfInBounds_toArray]
        try simp only [List.set_cons_succ, List.set_cons_zero]
        refine anyK_take (i := 3) (v := ?v434) rfl (by kernel_rfl) (by kernel_rfl) (by kernel_rfl) (by kernel_rfl) (fun _ _ _ h => h) (by rfl) hHeld ?hy434 (some 29) (by rfl) ?rest434
        case hy434 => (intro W hSw; (try dsimp only at hSw); go_simp; (try with_reducible rfl))
        try simp only [Act.put]
        try simp only [List.setIfInBounds_toArray]
        try simp only [List.set_cons_succ, List.set_cons_zero]
        refine anyK_take (i := 4) (v := ?v435) rfl (by kernel_rfl) (by kernel_rfl) (by kernel_rfl) (by kernel_rfl) (fun _ _ _ h => h) (by rfl) hHeld ?hy435 (some 30) (by rfl) ?rest435
        case hy435 => (intro W hSw; (try dsimp only at hSw); go_simp; (try with_reducible rfl))
        try simp only [Act.put]
        try simp only [List.setIfInBounds_toArray]
        try simp only [List.set_cons_succ, List.set_cons_zero]
        refine anyK_take (i := 5) (v := ?v436) rfl (by kernel_rfl) (by kernel_rfl) (by kernel_rfl) (by kernel_rfl) (fun _ _ _ h => h) (by rfl) hHeld ?hy436 (some 31) (by rfl) ?rest436
        case hy436 => (intro W hSw; (try dsimp only at hSw); go_simp; (try with_reducible rfl))
        try simp only [Act.put]
        try simp only [List.setIfInBounds_toArray]
        try simp only [List.set_cons_succ, List.set_cons_zero]
        refine anyK_take (i := 6) (v := ?v437) rfl (by kernel_rfl) (by kernel_rfl) (by kernel_rfl) (by kernel_rfl) (fun _ _ _ h => h) (by rfl) hHeld ?hy437 (some 32) (by rfl) ?rest437
        case hy437 => (intro W hSw; (try dsimp only at hSw); go_simp; (try with_reducible rfl))
        try simp only [Act.put]
        try simp only [List.setIfInBounds_toArray]
        try simp only [List.set_cons_succ, List.set_cons_zero]
        refine anyK_take (i := 7) (v := ?v438) rfl (by kernel_rfl) (by kernel_rfl) (by kernel_rfl) (by kernel_rfl) (fun _ _ _ h => h) (by rfl) hHeld ?hy438 (some 33) (by rfl) ?rest438
        case hy438 => (intro W hSw; (try dsimp only at hSw); go_simp; (try with_reducible rfl))
        try simp only [Act.put]
        try simp only [List.setIfInBounds_toArray]
        try simp only [List.set_cons_succ, List.set_cons_zero]
        refine anyK_take (i := 8) (v := ?v439) rfl (by kernel_rfl) (by kernel_rfl) (by kernel_rfl) (by kernel_rfl) (fun _ _ _ h => h) (by rfl) hHeld ?hy439 (some 34) (by rfl) ?rest439
        case hy439 => (intro W hSw; (try dsimp only at hSw); go_simp; (try with_reducible rfl))
        try simp only [Act.put]
        try simp only [List.setIfInBounds_toArray]
        try simp only [List.set_cons_succ, List.set_cons_zero]
        refine anyK_take (i := 9) (v := ?v440) rfl (by kernel_rfl) (by kernel_rfl) (by kernel_rfl) (by kernel_rfl) (fun _ _ _ h => h) (by rfl) hHeld ?hy440 (some 35) (by rfl) ?rest440
        case hy440 => (intro W hSw; (try dsimp only at hSw); go_simp; (try with_reducible rfl))
        try simp only [Act.put]
        try simp only [List.setIfInBounds_toArray]
        try simp only [List.set_cons_succ, List.set_cons_zero]
        refine anyK_take (i := 11) (v := ?v441) rfl (by kernel_rfl) (by kernel_rfl) (by kernel_rfl) (by kernel_rfl) (fun _ _ _ h => h) (by rfl) hHeld ?hy441 (some 37) (by rfl) ?rest441
        case hy441 => (intro W hSw; (try dsimp only at hSw); go_simp; (try with_reducible rfl))
        try simp only [Act.put]
        try simp only [List.setIfInBounds_toArray]
        try simp only [List.set_cons_succ, List.set_cons_zero]
        refine anyK_step (i := 10) (by kernel_rfl) rfl (fun KP hK => ?_)
        go_simp
        refine (spec_StatusOf cap ((Still.drew wr).readsI HR1.out) k).mono ?_
        rintro e w1 ⟨rfl, e1⟩
        subst w1
        go_wp2_with fail
        refine hK.out _ _ ?_ (fun hH2 => ?_)
        · exact hHeld
        clear hK KP hHeld
        have hHeld := hH2
        clear hH2
        try simp only [Act.put]
        try simp only [List.setIfInBounds_toArray]
        try simp only [List.set_cons_succ, List.set_cons_zero]
        refine anyK_take (i := 12) (v := ?v442) rfl (by kernel_rfl) (by kernel_rfl) (by kernel_rfl) (by kernel_rfl) (fun _ _ _ h => h) (by rfl) hHeld ?hy442 (some 38) (by rfl) ?rest442
        case hy442 => (intro W hSw; (try dsimp only at hSw); go_simp; (try with_reducible rfl))
        try simp only [Act.put]
        try simp only [List.setIfInBounds_toArray]
        try simp only [List.set_cons_succ, List.set_cons_zero]
        refine anyK_take (i := 13) (v := ?v443) rfl (by kernel_rfl) (by kernel_rfl) (by kernel_rfl) (by kernel_rfl) (fun _ _ _ h => h) (by rfl) hHeld ?hy443 (some 39) (by rfl) ?rest443
        case hy443 => (intro W hSw; (try dsimp only at hSw); go_simp; (try with_reducible rfl))
        try simp only [Act.put]
        try simp only [List.setIfInBounds_toArray]
        try simp only [List.set_cons_succ, List.set_cons_zero]
        refine anyK_take (i := 14) (v := ?v444) rfl (by kernel_rfl) (by kernel_rfl) (by kernel_rfl) (by kernel_rfl) (fun _ _ _ h => h) (by rfl) hHeld ?hy444 (some 40) (by rfl) ?rest444
        case hy444 => (intro W hSw; (try dsimp only at hSw); go_simp; (try with_reducible rfl))
        try simp only [Act.put]
        try simp only [List.setIfInBounds_toArray]
        try simp only [List.set_cons_succ, List.set_cons_zero]
        refine anyK_take (i := 15) (v := ?v445) rfl (by kernel_rfl) (by kernel_rfl) (by kernel_rfl) (by kernel_rfl) (fun _ _ _ h => h) (by rfl) hHeld ?hy445 (some 41) (by rfl) ?rest445
        case hy445 => (intro W hSw; (try dsimp only at hSw); go_simp; (try with_reducible rfl))
        try simp only [Act.put]
        try simp only [List.setIfInBounds_toArray]
        try simp only [List.set_cons_succ, List.set_cons_zero]
        refine anyK_last (by kernel_rfl) rfl (fun KP hK => ?_)
        go_simp
        refine hK.out _ _ ?_
        clear hK KP hHeld
        refine anyK_done (by kernel_rfl) ?_ _
        go_wp2_with fail
        go_roundw
        case rel =>
          refine ⟨k + 1, _, c1, by omega, by go_num, by rw [show (k + 1 + 3) / 4 = j + 1 by have := HJ.out; omega], hid ?_, hid ?_⟩
          · rw [show (k + 1 + 3) / 4 = j + 1 by have := HJ.out; omega]
            have o3 := R1.out.1
            have e6 := pbs_set l k (j + 1)
            rw [HJ.out] at e6
            rw [bys_set8, e6] at o3
            exact (Still.drew _).owns o3
          · exact (HB3.out.setCell hgb _).trans ((Still.drew _).below _)
        case measure => simp [intOf]; omega
      · have hm : (k : Int) % 4 = 3 := by have := HJ.out; omega
        have hor : bits .or .u8 (pb l k (j)) (stOf l (k : Int) * 64) = pb l (k + 1) (j) := by have := pb_or l k 3 64 (by omega) (by omega); rw [HJ.out] at this; simpa using this
        have hw1 : IntKind.i64.wrap (stOf l (k : Int) * 64) = stOf l (k : Int) * 64 := by have := stOf_bd l (k : Int); simp [IntKind.wrap, IntKind.bits, IntKind.signed]; omega
        have hw2 : IntKind.u8.wrap (stOf l (k : Int) * 64) = stOf l (k : Int) * 64 := by have := stOf_bd l (k : Int); simp [IntKind.wrap, IntKind.bits, IntKind.signed]; omega
        have e4 : (k + 3) / 4 = j + 1 := by have := HJ.out; omega
        rw [e4] at HO1
        have HO3 := HO1
        have HB3 := HB1
        rw [e4]
        obtain ⟨g, eA, hgb⟩ : ∃ g, a1 = some ⟨g, 0, none⟩ ∧ w.heap.size ≤ g := by
          rcases HO3.out.2 with ⟨_, e⟩ | ⟨g, cap, cur, e, hb, _⟩
          · omega
          · exact ⟨g, (Value.slice.inj e).1, hb⟩
        subst eA
        have hc : wr.cell? ⟨g, j, none⟩ = some (.int .u8 (pb l k (j))) := by rw [HO3.out.cellAt (j) (by omega)]; simp [bys, pbs]
        have hfr : wr.drew.frozen? ⟨g, j, none⟩ = false := ((Still.drew _).frozen _).trans (HO3.out.frozenAt _)
        have HR1 := hid (HR.out.below HB3.out (Nat.le_refl _))
        have R1 := hid (HO3.out.stored (j) (.int .u8 (pb l (k + 1) (j))))
        clear HO1 HB1
        go_wp2_with fail
        refine region_K 16 (fun X => X.cell? ⟨g, j, none⟩ = some (.int .u8 (pb l k (j)))) (by kernel_rfl) ?_ (fun hHeld => ?_)
        · exact ((Still.drew wr).cell _).trans hc
        refine anyK_take (i := 0) (v := ?v446) rfl (by kernel_rfl) (by kernel_rfl) (by kernel_rfl) (by kernel_rfl) (fun _ _ _ h => h) (by rfl) hHeld ?hy446 (some 26) (by rfl) ?rest446
        case hy446 => (intro W hSw; (try dsimp only at hSw); go_simp; (try with_reducible rfl))
        try simp only [Act.put]
        try simp only [List.setIfInBounds_toArray]
        try simp only [List.set_cons_succ, List.set_cons_zero]
        refine anyK_take (i := 1) (v := ?v447) rfl (by kernel_rfl) (by kernel_rfl) (by kernel_rfl) (by kernel_rfl) (fun _ _ _ h => h) (by rfl) hHeld ?hy447 (some 27) (by rfl) ?rest447
        case hy447 => (intro W hSw; (try dsimp only at hSw); go_simp; (try with_reducible rfl))
        try simp only [Act.put]
        try simp only [List.setIfInBounds_toArray]
        try simp only [List.set_cons_succ, List.set_cons_zero]
        refine anyK_take (i := 2) (v := ?v448) rfl (by kernel_rfl) (by kernel_rfl) (by kernel_rfl) (by kernel_rfl) (fun _ _ _ h => h) (by rfl) hHeld ?hy448 (some 28) (by rfl) ?rest448
        case hy448 => (intro W hSw; (try dsimp only at hSw); go_simp; (try with_reducible rfl))
        try simp only [Act.put]
        try simp only [List.setIfInBounds_toArray]
        try simp only [List.set_cons_succ, List.set_cons_zero]
        refine anyK_take (i := 3) (v := ?v449) rfl (by kernel_rfl) (by kernel_rfl) (by kernel_rfl) (by kernel_rfl) (fun _ _ _ h => h) (by rfl) hHeld ?hy449 (some 29) (by rfl) ?rest449
        case hy449 => (intro W hSw; (try dsimp only at hSw); go_simp; (try with_reducible rfl))
        try simp only [Act.put]
        try simp only [List.setIfInBounds_toArray]
        try simp only [List.set_cons_succ, List.set_cons_zero]
        refine anyK_take (i := 4) (v := ?v450) rfl (by kernel_rfl) (by kernel_rfl) (by kernel_rfl) (by kernel_rfl) (fun _ _ _ h => h) (by rfl) hHeld ?hy450 (some 30) (by rfl) ?rest450
        case hy450 => (intro W hSw; (try dsimp only at hSw); go_simp; (try with_reducible rfl))
        try simp only [Act.put]
        try simp only [List.setIfInBounds_toArray]
        try simp only [List.set_cons_succ, List.set_cons_zero]
        refine anyK_take (i := 5) (v := ?v451) rfl (by kernel_rfl) (by kernel_rfl) (by kernel_rfl) (by kernel_rfl) (fun _ _ _ h => h) (by rfl) hHeld ?hy451 (some 31) (by rfl) ?rest451
        case hy451 => (intro W hSw; (try dsimp only at hSw); go_simp; (try with_reducible rfl))
        try simp only [Act.put]
        try simp only [List.setIfInBounds_toArray]
        try simp only [List.set_cons_succ, List.set_cons_zero]
        refine anyK_take (i := 6) (v := ?v452) rfl (by kernel_rfl) (by kernel_rfl) (by kernel_rfl) (by kernel_rfl) (fun _ _ _ h => h) (by rfl) hHeld ?hy452 (some 32) (by rfl) ?rest452
        case hy452 => (intro W hSw; (try dsimp only at hSw); go_simp; (try with_reducible rfl))
        try simp only [Act.put]
        try simp only [List.setIfInBounds_toArray]
        try simp only [List.set_cons_succ, List.set_cons_zero]
        refine anyK_take (i := 7) (v := ?v453) rfl (by kernel_rfl) (by kernel_rfl) (by kernel_rfl) (by kernel_rfl) (fun _ _ _ h => h) (by rfl) hHeld ?hy453 (some 33) (by rfl) ?rest453
        case hy453 => (intro W hSw; (try dsimp only at hSw); go_simp; (try with_reducible rfl))
        try simp only [Act.put]
        try simp only [List.setIfInBounds_toArray]
        try simp only [List.set_cons_succ, List.set_cons_zero]
        refine anyK_take (i := 8) (v := ?v454) rfl (by kernel_rfl) (by kernel_rfl) (by kernel_rfl) (by kernel_rfl) (fun _ _ _ h => h) (by rfl) hHeld ?hy454 (some 34) (by rfl) ?rest454
        case hy454 => (intro W hSw; (try dsimp only at hSw); go_simp; (try with_reducible rfl))
        try simp only [Act.put]
        try simp only [List.setIfInBounds_toArray]
        try simp only [List.set_cons_succ, List.set_cons_zero]
        refine anyK_take (i := 9) (v := ?v455) rfl (by kernel_rfl) (by kernel_rfl) (by kernel_rfl) (by kernel_rfl) (fun _ _ _ h => h) (by rfl) hHeld ?hy455 (some 35) (by rfl) ?rest455
        case hy455 => (intro W hSw; (try dsimp only at hSw); go_simp; (try with_reducible rfl))
        try simp only [Act.put]
        try simp only [List.setIfInBounds_toArray]
        try simp only [List.set_cons_succ, List.set_cons_zero]
        refine anyK_take (i := 11) (v := ?v456) rfl (by kernel_rfl) (by kernel_rfl) (by kernel_rfl) (by kernel_rfl) (fun _ _ _ h => h) (by rfl) hHeld ?hy456 (some 37) (by rfl) ?rest456
        case hy456 => (intro W hSw; (try dsimp only at hSw); go_simp; (try with_reducible rfl))
        try simp only [Act.put]
        try simp only [List.setIfInBounds_toArray]
        try simp only [List.set_cons_succ, List.set_cons_zero]
        refine anyK_step (i := 10) (by kernel_rfl) rfl (fun KP hK => ?_)
        go_simp
        refine (spec_StatusOf cap ((Still.drew wr).readsI HR1.out) k).mono ?_
        rintro e w1 ⟨rfl, e1⟩
        subst w1
        go_wp2_with fail
        refine hK.out _ _ ?_ (fun hH2 => ?_)
        · exact hHeld
        clear hK KP hHeld
        have hHeld := hH2
        clear hH2
        try simp only [Act.put]
        try simp only [List.setIfInBounds_toArray]
        try simp only [List.set_cons_succ, List.set_cons_zero]
        refine anyK_take (i := 12) (v := ?v457) rfl (by kernel_rfl) (by kernel_rfl) (by kernel_rfl) (by kernel_rfl) (fun _ _ _ h => h) (by rfl) hHeld ?hy457 (some 38) (by rfl) ?rest457
        case hy457 => (intro W hSw; (try dsimp only at hSw); go_simp; (try with_reducible rfl))
        try simp only [Act.put]
        try simp only [List.setIfInBounds_toArray]
        try simp only [List.set_cons_succ, List.set_cons_zero]
        refine anyK_take (i := 13) (v := ?v458) rfl (by kernel_rfl) (by kernel_rfl) (by kernel_rfl) (by kernel_rfl) (fun _ _ _ h => h) (by rfl) hHeld ?hy458 (some 39) (by rfl) ?rest458
        case hy458 => (intro W hSw; (try dsimp only at hSw); go_simp; (try with_reducible rfl))
        try simp only [Act.put]
        try simp only [List.setIfInBounds_toArray]
        try simp only [List.set_cons_succ, List.set_cons_zero]
        refine anyK_take (i := 14) (v := ?v459) rfl (by kernel_rfl) (by kernel_rfl) (by kernel_rfl) (by kernel_rfl) (fun _ _ _ h => h) (by rfl) hHeld ?hy459 (some 40) (by rfl) ?rest459
        case hy459 => (intro W hSw; (try dsimp only at hSw); go_simp; (try with_reducible rfl))
        try simp only [Act.put]
        try simp only [List.setIfInBounds_toArray]
        try simp only [List.set_cons_succ, List.set_cons_zero]
        refine anyK_take (i := 15) (v := ?v460) rfl (by kernel_rfl) (by kernel_rfl) (by kernel_rfl) (by kernel_rfl) (fun _ _ _ h => h) (by rfl) hHeld ?hy460 (some 41) (by rfl) ?rest460
        case hy460 => (intro W hSw; (try dsimp only at hSw); go_simp; (try with_reducible rfl))
        try simp only [Act.put]
        try simp only [List.setIfInBounds_toArray]
        try simp only [List.set_cons_succ, List.set_cons_zero]
        refine anyK_last (by kernel_rfl) rfl (fun KP hK => ?_)
        go_simp
        refine hK.out _ _ ?_
        clear hK KP hHeld
        refine anyK_done (by kernel_rfl) ?_ _
        go_wp2_with fail
        go_roundw
        case rel =>
          refine ⟨k + 1, _, c1, by omega, by go_num, by rw [show (k + 1 + 3) / 4 = j + 1 by have := HJ.out; omega], hid ?_, hid ?_⟩
          · rw [show (k + 1 + 3) / 4 = j + 1 by have := HJ.out; omega]
            have o3 := R1.out.1
            have e6 := pbs_set l k (j + 1)
            rw [HJ.out] at e6
            rw [bys_set8, e6] at o3
            exact (Still.drew _).owns o3
          · exact (HB3.out.setCell hgb _).trans ((Still.drew _).below _)
        case measure => simp [intOf]; omega
    · have hlt' : ¬ (k : Int) < (n : Int) := by omega
      obtain rfl : k = n := by omega
      go_wp2_with fail
      go_ret
      exact ⟨_, rfl, by rw [HE.out, pbs_length]; exact HO1.out, HB1.out⟩

set_option maxHeartbeats 1600000 in
theorem spec_StatusBytes {ad : Option Addr} {n : Nat} (cap : Nat) {l : List Int} {w : World} (h : ReadsI w ad n l) :
    Calls Try.prog 36 #[.slice ad n cap] w fun e w' => ∃ v, e = .returned v ∧ w'.ownsRow w.heap.size 5 1 v (stB l).length (bys (stB l)) ∧ Below w.heap.size w w' := by
  by_cases hn : n ≤ 401
  · exact spec_StatusBytes_yes cap h hn
  · rw [stB_no (by rw [h.len]; exact hn)]
    have q1 : (401 : Int) < (n : Int) := by omega
    clear h
    go_enter Try.func36, Try.ntmps36
    go_wp2_with fail
    go_ret
    exact ⟨_, rfl, World.ownsRow_nil _ _ _ _, Below.refl _ _⟩
end Go.Proofs.Ytioefplkadpfnaa
