/- The contract of the program's ControlRead. Conditions: at most 2^21 bytes. -/
import Derived.Test.YtplbejipkaionaaCf17
import Derived.Test.YtplbejipkaionaaFai
import Derived.Test.YtplbejipkaionaaSx7
namespace Go.Proofs.Ytplbejipkaionaa
open Go.RowKit
set_option maxRecDepth 100000

theorem fb_bd17 {zs : List Int} (h : ∀ i, 0 ≤ zs.getD i 0 ∧ zs.getD i 0 ≤ 255) (at' : Int) : (∀ i, 0 ≤ (faOf zs at').b.getD i 0 ∧ (faOf zs at').b.getD i 0 ≤ 255) ∧ (faOf zs at').b.length ≤ 1000 := by
  have sb : ∀ A m i, 0 ≤ (sub zs A m).getD i 0 ∧ (sub zs A m).getD i 0 ≤ 255 := fun A m i => by
    by_cases hi : i < m
    · rw [sub_at zs A m i hi]; exact h _
    · have : (sub zs A m).length ≤ m := by simp [sub]; omega
      rw [List.getD_eq_getElem?_getD, List.getElem?_eq_none (by omega)]; simp
  unfold faOf
  split
  · exact ⟨fun i => by simp, by simp⟩
  split
  · exact ⟨fun i => by simp, by simp⟩
  rename_i h2
  split
  · exact ⟨fun i => by simp, by simp⟩
  split
  · exact ⟨fun i => by simp, by simp⟩
  exact ⟨sb _ _, by simp only [sub, List.length_take]; omega⟩
theorem in_yes17 {zs : List Int} (h1 : okCt (inC zs) = true) (h2 : ctC (inC zs) = zs) : rdOkC zs = true ∧ rdC zs = inC zs := by
  obtain ⟨a, b⟩ := in_raw zs
  have q : rdOkC zs = true := by rw [← a, h1, decide_eq_true h2]; rfl
  exact ⟨q, by rw [rdC_yes q, b q]⟩
theorem in_no17 {zs : List Int} (h : ¬ (okCt (inC zs) = true ∧ ctC (inC zs) = zs)) : rdOkC zs = false := by
  obtain ⟨a, -⟩ := in_raw zs
  rw [← a]
  by_cases q : okCt (inC zs) = true
  · rw [q, decide_eq_false (fun e => h ⟨q, e⟩)]; rfl
  · simp [q]

set_option maxHeartbeats 12800000 in
theorem impl_ControlRead {b off n : Nat} (cap : Nat) {zs : List Int} {w : World} (h : Reads w (some ⟨b, off, none⟩) n zs) (hn : n ≤ 2097152) (hcap : n ≤ cap) :
    Calls Try.prog 10 #[.slice (some ⟨b, off, none⟩) n cap] w fun e w' => e = .returned (.tuple #[.agg (cellsC (rdC zs)), .bool (rdOkC zs)]) ∧ Below w.heap.size w w' := by
  have HB := hid (Below.alloc1 w (.cells #[.int .i64 0, .int .i64 0, .int .i64 0, .int .i64 0, .int .i64 0] 25))
  have HR0 := hid (heap_alloc_new w (.cells #[.int .i64 0, .int .i64 0, .int .i64 0, .int .i64 0, .int .i64 0] 25))
  have HL := hid (h.below (Below.alloc1 w (.cells #[.int .i64 0, .int .i64 0, .int .i64 0, .int .i64 0, .int .i64 0] 25)) (Nat.le_refl _))
  have HS := hid (show w.heap.size < (w.alloc (.cells #[.int .i64 0, .int .i64 0, .int .i64 0, .int .i64 0, .int .i64 0] 25)).heap.size by rw [alloc_size]; omega)
  have HI := hid (show inC zs = ⟨numOf (faOf zs 0).b 0 4, numOf (faOf zs 0).b 4 1, numOf (faOf zs 0).b 5 4, numOf (faOf zs 0).b 9 4, numOf (faOf zs 0).b 13 1⟩ from rfl)
  have HF := hid (fb_bd17 h.bd 0)
  have HY := hid (@in_yes17 zs)
  have HN := hid (@in_no17 zs)
  clear h
  go_enter Try.func10, Try.ntmps10
  go_wp2_with fail
  obtain ⟨g0, hg0⟩ : ∃ g, w.heap.size = g := ⟨_, rfl⟩
  simp only [hg0] at HR0 HS ⊢
  generalize w.alloc (.cells #[.int .i64 0, .int .i64 0, .int .i64 0, .int .i64 0, .int .i64 0] 25) = w0 at *
  refine (impl_FrameAt cap HL.out hn hcap 0 (by omega) (by omega)).mono ?_
  generalize faOf zs 0 = FA0 at *
  rintro e w1 ⟨v, rfl, o, b1⟩
  obtain ⟨a, c, rfl⟩ := own_sl o
  have RB := hid (own_reads17 o HF.out.1)
  have HM := hid HF.out.2
  generalize FA0.b = B at *
  replace HL := hid (HL.out.below b1 (Nat.le_refl _))
  replace HR0 := hid ((b1.block g0 (by have := HS.out; omega)).trans HR0.out)
  replace HS := hid (Nat.lt_of_lt_of_le HS.out b1.size)
  replace HB := hid (HB.out.trans (b1.mono HB.out.size))
  clear o b1 HF
  have F0 := hid (fun X => impl_GetNum c (RB.out.below (Below.alloc1 w1 X) (Nat.le_refl _)) (by have := HM.out; omega) 0 4 (by omega) (by omega) (by omega))
  have F1 := hid (fun X => impl_GetNum c (RB.out.below (Below.alloc1 w1 X) (Nat.le_refl _)) (by have := HM.out; omega) 4 1 (by omega) (by omega) (by omega))
  have F2 := hid (fun X => impl_GetNum c (RB.out.below (Below.alloc1 w1 X) (Nat.le_refl _)) (by have := HM.out; omega) 5 4 (by omega) (by omega) (by omega))
  have F3 := hid (fun X => impl_GetNum c (RB.out.below (Below.alloc1 w1 X) (Nat.le_refl _)) (by have := HM.out; omega) 9 4 (by omega) (by omega) (by omega))
  have F4 := hid (fun X => impl_GetNum c (RB.out.below (Below.alloc1 w1 X) (Nat.le_refl _)) (by have := HM.out; omega) 13 1 (by omega) (by omega) (by omega))
  generalize numOf B 0 4 = x0 at F0 HI
  generalize numOf B 4 1 = x1 at F1 HI
  generalize numOf B 5 4 = x2 at F2 HI
  generalize numOf B 9 4 = x3 at F3 HI
  generalize numOf B 13 1 = x4 at F4 HI
  clear RB HM
  go_wp2_with fail
  refine (F0.out _).mono ?_
  rintro e w2 ⟨rfl, e1⟩
  subst w2
  go_wp2_with fail
  refine (F1.out _).mono ?_
  rintro e w2 ⟨rfl, e1⟩
  subst w2
  go_wp2_with fail
  refine (F2.out _).mono ?_
  rintro e w2 ⟨rfl, e1⟩
  subst w2
  go_wp2_with fail
  refine (F3.out _).mono ?_
  rintro e w2 ⟨rfl, e1⟩
  subst w2
  go_wp2_with fail
  refine (F4.out _).mono ?_
  rintro e w2 ⟨rfl, e1⟩
  subst w2
  go_wp2_with fail
  have bX := Below.alloc1 w1 (.cells #[.int .i64 x0, .int .i64 x1, .int .i64 x2, .int .i64 x3, .int .i64 x4] 25)
  have BX := hid (RowC.mk (heap_alloc_new w1 (.cells #[.int .i64 x0, .int .i64 x1, .int .i64 x2, .int .i64 x3, .int .i64 x4] 25)))
  replace HL := hid (HL.out.below bX (Nat.le_refl _))
  replace HR0 := hid ((bX.block g0 HS.out).trans HR0.out)
  replace HS := hid (Nat.lt_of_lt_of_le HS.out bX.size)
  replace HB := hid (HB.out.trans (bX.mono HB.out.size))
  clear bX F0 F1 F2 F3 F4
  generalize w1.alloc (.cells #[.int .i64 x0, .int .i64 x1, .int .i64 x2, .int .i64 x3, .int .i64 x4] 25) = U at *
  obtain ⟨g1, hg1⟩ : ∃ g, w1.heap.size = g := ⟨_, rfl⟩
  rw [hg1] at BX
  try simp only [hg1]
  clear hg1
  go_wp2_with (refine wpList_load_row rfl 25 (.tmp 8) rfl g1 rfl 25 _ (0, 0) _ BX.out.h Try.underlying25 rfl size_ct ?_)
  refine (impl_isControl x0 x1 x2 x3 x4 _).mono ?_
  rintro e w2 ⟨rfl, b2⟩
  replace HL := hid (HL.out.below b2 (Nat.le_refl _))
  replace BX := hid (BX.out.below b2 (Nat.le_refl _))
  replace HR0 := hid ((b2.block g0 HS.out).trans HR0.out)
  replace HS := hid (Nat.lt_of_lt_of_le HS.out b2.size)
  replace HB := hid (HB.out.trans (b2.mono HB.out.size))
  clear b2
  by_cases hok : okC x0 x1 x2 x3 x4 = true
  case neg =>
    have hno : okC x0 x1 x2 x3 x4 = false := by simpa using hok
    have HE := hid (HN.out (fun q => hok (by have := q.1; rw [HI.out] at this; exact this)))
    rw [hno]
    go_wp2_with (refine wpList_store_row rfl 25 (.tmp 2) (.tmp 56) rfl g0 #[.int .i64 0, .int .i64 0, .int .i64 0, .int .i64 0, .int .i64 0] rfl rfl 25 _ HR0.out ?s7 ?s8 ?s9 ?_)
    case s7 => exact size_ct
    case s8 => rfl
    case s9 => simp [Value.oneCell']
    refine bodyPost_ret (results_cell_tmp17 Try.results10 _ _ g0 25 #[.int .i64 0, .int .i64 0, .int .i64 0, .int .i64 0, .int .i64 0] (0, 0) _ rfl (setRow_heap _ _ _ _ _ _ HR0.out) Try.underlying25 rfl size_ct) rfl ⟨?_, below_setRow HB.out (by rw [hg0]; exact Nat.le_refl _) _⟩
    rw [HE.out, rdC_no HE.out]
    rfl
  rw [hok]
  have HO1 := hid hok
  go_wp2_with (refine BigFrame.wpList_want (by rfl) (fun _ hK => wp_load_row 25 (.tmp 8) rfl g1 rfl 25 _ (0, 0) _ BX.out.h Try.underlying25 rfl size_ct (hK _ _ ?_)))
  refine (impl_ControlBytes x0 x1 x2 x3 x4 _).mono ?_
  rintro e w3 ⟨v, rfl, o, b3⟩
  obtain ⟨a3, c3, rfl⟩ := own_sl o
  have RC := hid (own_reads17 o (ctl_bd x0 x1 x2 x3 x4).2)
  replace HL := hid (HL.out.below b3 (Nat.le_refl _))
  replace BX := hid (BX.out.below b3 (Nat.le_refl _))
  replace HR0 := hid ((b3.block g0 HS.out).trans HR0.out)
  replace HS := hid (Nat.lt_of_lt_of_le HS.out b3.size)
  replace HB := hid (HB.out.trans (b3.mono HB.out.size))
  clear b3 o
  go_wp2_with fail
  refine (bytes_equal c3 cap RC.out HL.out).mono ?_
  rintro e w4 ⟨rfl, e4⟩
  subst w4
  by_cases heq : ctlL x0 x1 x2 x3 x4 = zs
  case neg =>
    have HE := hid (HN.out (fun q => heq (by have := q.2; rw [HI.out] at this; exact this)))
    rw [decide_eq_false heq]
    go_wp2_with (refine wpList_store_row rfl 25 (.tmp 2) (.tmp 56) rfl g0 #[.int .i64 0, .int .i64 0, .int .i64 0, .int .i64 0, .int .i64 0] rfl rfl 25 _ HR0.out ?t7 ?t8 ?t9 ?_)
    case t7 => exact size_ct
    case t8 => rfl
    case t9 => simp [Value.oneCell']
    refine bodyPost_ret (results_cell_tmp17 Try.results10 _ _ g0 25 #[.int .i64 0, .int .i64 0, .int .i64 0, .int .i64 0, .int .i64 0] (0, 0) _ rfl (setRow_heap _ _ _ _ _ _ HR0.out) Try.underlying25 rfl size_ct) rfl ⟨?_, below_setRow HB.out (by rw [hg0]; exact Nat.le_refl _) _⟩
    rw [HE.out, rdC_no HE.out]
    rfl
  have HE := hid (HY.out (by rw [HI.out]; exact HO1.out) (by rw [HI.out]; exact heq))
  rw [decide_eq_true heq]
  clear heq
  go_wp2_with (first
    | (refine wpList_load_row rfl 25 (.tmp 8) rfl g1 rfl 25 _ (0, 0) _ BX.out.h Try.underlying25 rfl size_ct ?_)
    | (refine wpList_store_row rfl 25 (.tmp 2) (.tmp 57) rfl g0 #[.int .i64 x0, .int .i64 x1, .int .i64 x2, .int .i64 x3, .int .i64 x4] rfl rfl 25 _ HR0.out ?u7 ?u8 ?u9 ?_))
  case u7 => exact size_ct
  case u8 => rfl
  case u9 => simp [Value.oneCell']
  refine bodyPost_ret (results_cell_tmp17 Try.results10 _ _ g0 25 #[.int .i64 x0, .int .i64 x1, .int .i64 x2, .int .i64 x3, .int .i64 x4] (0, 0) _ rfl (setRow_heap _ _ _ _ _ _ HR0.out) Try.underlying25 rfl size_ct) rfl ⟨?_, below_setRow HB.out (by rw [hg0]; exact Nat.le_refl _) _⟩
  rw [HE.out.1, HE.out.2, HI.out]
  rfl
end Go.Proofs.Ytplbejipkaionaa
