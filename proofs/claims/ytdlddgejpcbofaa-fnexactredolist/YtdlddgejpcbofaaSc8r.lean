/- Statuses: a list that is settled; the contracts of both StatusSettle. Conditions: lists of at most 2^40 numbers. -/
import Derived.Test.YtdlddgejpcbofaaSb8r
namespace Go.Proofs.Ytdlddgejpcbofaa
open Go.RowKit
set_option maxRecDepth 100000

/-- What stands at place i of a settled list. -/
def setlAt (l : List Int) (i : Nat) : Int := if i = 0 then 0 else setl (stOf l i)
def settleS (l : List Int) (x : Int) : List Int := if 0 ≤ x ∧ x ≤ 401 then (List.range x.toNat).map (setlAt l) else []
theorem setl_bd (s : Int) : 1 ≤ setl s ∧ setl s ≤ 2 := by unfold setl; split <;> omega
theorem setlAt_bd (l : List Int) (i : Nat) : 0 ≤ setlAt l i ∧ setlAt l i ≤ 2 := by
  unfold setlAt; split
  · omega
  · have := setl_bd (stOf l i); omega
theorem settleS_small (l : List Int) (x : Int) : (settleS l x).length ≤ 1500000 ∧ ∀ i, -9223372036854775808 ≤ (settleS l x).getD i 0 ∧ (settleS l x).getD i 0 ≤ 9223372036854775807 := by
  unfold settleS
  split
  · refine ⟨by simp; omega, fun i => ?_⟩
    by_cases hi : i < x.toNat
    · simp only [List.getD_eq_getElem?_getD, List.getElem?_map, List.getElem?_range hi, Option.map_some, Option.getD_some]
      have := setlAt_bd l i; omega
    · simp only [List.getD_eq_getElem?_getD, List.getElem?_map, List.getElem?_eq_none (show (List.range x.toNat).length ≤ i by simp; omega), Option.map_none, Option.getD_none]; omega
  · simp
def upTo (l : List Int) (k : Nat) : List Int := (List.range k).map (setlAt l)
theorem upTo_length (l : List Int) (k : Nat) : (upTo l k).length = k := by simp [upTo]
theorem upTo_succ (l : List Int) (k : Nat) : upTo l (k + 1) = upTo l k ++ [setlAt l k] := by simp [upTo, List.range_succ]
theorem upTo_zero (l : List Int) : setlAt l 0 = 0 := by simp [setlAt]
theorem setlAt_pos (l : List Int) (k : Nat) (h : k ≠ 0) : setlAt l k = setl (stOf l k) := by unfold setlAt; rw [if_neg h]
theorem set_up (l : List Int) (k N : Nat) (h : k < N) : (ins (upTo l k) ++ List.replicate (N - k) (Value.int .i64 0)).set k (.int .i64 (setlAt l k)) = ins (upTo l (k + 1)) ++ List.replicate (N - (k + 1)) (Value.int .i64 0) := by
  rw [List.set_append_right _ _ (by simp [ins_length, upTo_length]), ins_length, upTo_length, Nat.sub_self, show N - k = (N - (k + 1)) + 1 by omega, List.replicate_succ, List.set_cons_zero, upTo_succ, ins_append]
  simp [ins]

set_option maxHeartbeats 3200000 in
theorem impl_StatusSettle_yes {ad : Option Addr} {n : Nat} (cap : Nat) {l : List Int} {w : World} (h : ReadsI w ad n l) (hn : n ≤ 4611686018427387904) (N : Nat) (hN : N ≤ 401) :
    Calls Try.prog 23 #[.slice ad n cap, .int .i64 N] w fun e w' => ∃ v, e = .returned v ∧ w'.ownsRow w.heap.size 3 1 v N (ins (upTo l N)) ∧ Below w.heap.size w w' := by
  obtain ⟨i0, hi, hz0, hz1, hz2⟩ := info_parts Try.infoI
  have HR := hid h
  clear h
  go_enter Try.func23, Try.ntmps23
  go_wp2_with fail
  refine (impl_in8 _ _ _ w).mono ?_
  rintro e w1 ⟨rfl, e1⟩
  subst w1
  rw [decide_eq_true (by omega)]
  go_wp2_with (at_make; refine wpList_make_full _ rfl _ _ 22 rfl w.heap.size 3 i0 (.int .i64 0) 1 Try.underlying22 hi hz0 hz1 _ _ _ _ N rfl rfl (by omega) (by omega) (by rw [hz2]; omega) (by unfold maxLen; omega) (Nat.le_refl _) ?_)
  intro w0 hown0 hgrow0
  rw [toList_madeCells_one] at hown0
  have HO := hid hown0
  have HB := hid ((Below.refl w.heap.size w).grown hgrow0 (Nat.le_refl _) (fun k h => by cases h))
  clear hown0 hgrow0
  go_wp2_with fail
  go_loopw [6] (fun i wr => ∃ k : Nat, 1 ≤ k ∧ k ≤ max N 1 ∧ i = .int .i64 k ∧ Hid (wr.ownsRow w.heap.size 3 1 (.slice (some ⟨w.heap.size, 0, none⟩) N N) N (if k ≤ N then ins (upTo l k) ++ List.replicate (N - k) (Value.int .i64 0) else [])) ∧ Hid (Below w.heap.size w wr)) (fun i _ => N - (intOf i).toNat)
  case atStart =>
    refine ⟨1, Nat.le_refl _, by omega, rfl, hid ?_, HB⟩
    have o := HO.out
    by_cases h0 : 1 ≤ N
    · rw [if_pos h0]
      rw [show List.replicate N (Value.int .i64 0) = ins (upTo l 1) ++ List.replicate (N - 1) (Value.int .i64 0) by
        rw [show N = (N - 1) + 1 by omega, List.replicate_succ]; simp [upTo, ins, upTo_zero]] at o
      exact o
    · rw [if_neg h0]
      rw [show List.replicate N (Value.int .i64 0) = [] by rw [show N = 0 by omega]; rfl] at o
      exact o
  case round =>
    obtain ⟨k, hk1, hk2, rfl, HO1, HB1⟩ := hrel
    by_cases hlt : k < N
    · have hlt' : (k : Int) < (N : Int) := by omega
      have HR1 := hid (HR.out.below HB1.out (Nat.le_refl _))
      have o1 := HO1.out
      rw [if_pos (Nat.le_of_lt hlt)] at o1
      have hcy : ∃ v, wr.cell? ⟨w.heap.size, k, none⟩ = some v := by
        rw [o1.cellAt k (by omega)]
        exact ⟨_, List.getElem?_eq_getElem (by simp [ins_length, upTo_length]; omega)⟩
      obtain ⟨v, hcy⟩ := hcy
      have hfr : wr.frozen? ⟨w.heap.size, k, none⟩ = false := o1.frozenAt k
      have R1 := hid (o1.stored k (.int .i64 (setlAt l k)))
      rw [set_up l k N hlt, setlAt_pos l k (by omega)] at R1
      clear o1 HO1 HO HB
      go_wp2_with fail
      refine (impl_StatusOf cap HR1.out hn k).mono ?_
      rintro e w1 ⟨rfl, e1⟩
      subst w1
      go_wp2_with fail
      refine (impl_settled _ wr).mono ?_
      rintro e w1 ⟨rfl, e1⟩
      subst w1
      go_wp2_with fail
      go_roundw
      case rel => exact ⟨k + 1, by omega, by omega, by go_num, hid (by rw [if_pos (show k + 1 ≤ N by omega)]; exact R1.out.1), hid (HB1.out.setCell (Nat.le_refl _) _)⟩
      case measure => simp [intOf]; omega
    · have hlt' : ¬ (k : Int) < (N : Int) := by omega
      go_wp2_with fail
      go_ret
      refine ⟨_, rfl, ?_, HB1.out⟩
      have o := HO1.out
      by_cases h0 : k ≤ N
      · obtain rfl : k = N := by omega
        rw [if_pos h0, Nat.sub_self] at o
        simpa using o
      · rw [if_neg h0] at o
        obtain rfl : N = 0 := by omega
        exact o

theorem settleS_yes (l : List Int) (N : Nat) (h : N ≤ 401) : settleS l N = upTo l N := by unfold settleS upTo; rw [if_pos (by omega), Int.toNat_natCast]
theorem settleS_no (l : List Int) (x : Int) (h : ¬ (0 ≤ x ∧ x ≤ 401)) : settleS l x = [] := by unfold settleS; rw [if_neg h]

set_option maxHeartbeats 1600000 in
theorem impl_StatusSettle {ad : Option Addr} {n : Nat} (cap : Nat) {l : List Int} {w : World} (h : ReadsI w ad n l) (hn : n ≤ 4611686018427387904) (x : Int) :
    Calls Try.prog 23 #[.slice ad n cap, .int .i64 x] w fun e w' => ∃ v, e = .returned v ∧ w'.ownsRow w.heap.size 3 1 v (settleS l x).length (ins (settleS l x)) ∧ Below w.heap.size w w' := by
  by_cases hx : 0 ≤ x ∧ x ≤ 401
  · obtain ⟨N, rfl⟩ : ∃ N : Nat, x = N := ⟨x.toNat, by omega⟩
    rw [settleS_yes l N (by omega), upTo_length]
    exact impl_StatusSettle_yes cap h hn N (by omega)
  · rw [settleS_no l x hx]
    clear h
    go_enter Try.func23, Try.ntmps23
    go_wp2_with fail
    refine (impl_in8 _ _ _ w).mono ?_
    rintro e w1 ⟨rfl, e1⟩
    subst w1
    rw [decide_eq_false hx]
    go_wp2_with fail
    go_ret
    exact ⟨_, rfl, World.ownsRow_nil _ _ _ _, Below.refl _ _⟩

set_option maxHeartbeats 3200000 in
theorem spec_StatusSettle_yes {ad : Option Addr} {n : Nat} (cap : Nat) {l : List Int} {w : World} (h : ReadsI w ad n l) (N : Nat) (hN : N ≤ 401) :
    Calls Try.prog 18 #[.slice ad n cap, .int .i64 N] w fun e w' => ∃ v, e = .returned v ∧ w'.ownsRow w.heap.size 3 1 v N (ins (upTo l N)) ∧ Below w.heap.size w w' := by
  obtain ⟨i0, hi, hz0, hz1, hz2⟩ := info_parts Try.infoI
  have HR := hid h
  clear h
  go_enter Try.func18, Try.ntmps18
  go_wp2_with fail
  refine (spec_in8 _ _ _ w).mono ?_
  rintro e w1 ⟨rfl, e1⟩
  subst w1
  rw [decide_eq_true (by omega)]
  go_wp2_with fail
  go_loopw [5, 6, 7] (fun sl i _ wr => ∃ (k : Nat) (a1 : Option Addr) (c1 : Nat), k ≤ N ∧ i = .int .i64 k ∧ sl = .slice a1 k c1 ∧ Hid (wr.ownsRow w.heap.size 3 1 (.slice a1 k c1) k (ins (upTo l k))) ∧ Hid (Below w.heap.size w wr)) (fun _ i _ _ => N - (intOf i).toNat)
  case atStart => exact ⟨0, none, 0, Nat.zero_le _, rfl, rfl, hid (World.ownsRow_nil _ _ _ _), hid (Below.refl _ _)⟩
  case round =>
    obtain ⟨k, a1, c1, hk, rfl, rfl, HO1, HB1⟩ := hrel
    by_cases hlt : k < N
    · have hlt' : (k : Int) < (N : Int) := by omega
      have HR1 := hid (HR.out.below HB1.out (Nat.le_refl _))
      have HS := hid (upTo_succ l k)
      have HZ := hid (show setlAt l k = if k = 0 then 0 else if stOf l k = 1 then 1 else 2 from rfl)
      obtain ⟨y, hy⟩ : ∃ y, setlAt l k = y := ⟨_, rfl⟩
      rw [hy] at HS HZ
      have AP : ∀ y' : Int, y' = y → ∀ (a3 : Option Addr) (c3 : Nat) (w3 : World), w3.ownsRow w.heap.size 3 1 (.slice a3 (k + 1) c3) (k + 1) (ins (upTo l k) ++ [.int .i64 y']) → w3.ownsRow w.heap.size 3 1 (.slice a3 (k + 1) c3) (k + 1) (ins (upTo l (k + 1))) := by
        rintro y' rfl a3 c3 w3 o
        rw [HS.out, ins_append]; exact o
      have HAP := hid AP
      clear AP hy HS
      go_wp2_with fail
      refine (spec_StatusOf cap HR1.out k).mono ?_
      rintro e w1 ⟨rfl, e1⟩
      subst w1
      clear HR1
      obtain ⟨s, hs⟩ : ∃ s, stOf l k = s := ⟨_, rfl⟩
      rw [hs]
      have HZ1 := HZ.out
      rw [hs] at HZ1
      clear hs HZ
      have HE := hid HZ1
      clear HZ1
      by_cases h0 : k = 0
      · have q0 : ((k : Int) == 0) = true := by simp [h0]
        have H0 := hid h0
        clear h0
        by_cases h1 : s = 1
        · have q1 : (s == 1) = true := by simp [h1]
          go_wp2_with (at_builtin; refine wpList_append_row rfl _ _ 22 rfl w.heap.size 3 i0 (.int .i64 0) 1 8 Try.underlying22 hi hz0 hz1 hz2 rfl (by decide) _ _ _ rfl (HO1.out.alloc _) (some ⟨wr.heap.size, 0, none⟩) 1 1 [.int .i64 0] rfl ?d1 (.inr ⟨_, rfl, World.news_of_block (heap_alloc_new wr _)⟩) ?d5 ?d2 ?d3 ?d4 ?d6 ?_)
          case d1 => rfl
          case d5 => exact fun e => by cases e
          case d2 => intro u hu; simp at hu; subst hu; rfl
          case d3 => unfold maxLen; omega
          case d4 => omega
          case d6 => have := HB1.out.size; simp; omega
          intro a3 c3 w3 o g
          have HO3 := hid (HAP.out 0 (by have := HE.out; rw [if_pos H0.out] at this; exact this.symm) a3 c3 w3 o)
          have HB3 := hid ((HB1.out.alloc HB1.out.size _).grown g (by have := HB1.out.size; simp; omega) (fun k hk => (HO1.out.lt k hk).1))
          clear o g HO1 HB1 HAP
          go_wp2_with fail
          go_roundw
          case rel => exact ⟨k + 1, a3, c3, by omega, by go_num, rfl, HO3, HB3⟩
          case measure => simp [intOf]; omega
        · have q1 : (s == 1) = false := by simp [h1]
          go_wp2_with (at_builtin; refine wpList_append_row rfl _ _ 22 rfl w.heap.size 3 i0 (.int .i64 0) 1 8 Try.underlying22 hi hz0 hz1 hz2 rfl (by decide) _ _ _ rfl (HO1.out.alloc _) (some ⟨wr.heap.size, 0, none⟩) 1 1 [.int .i64 0] rfl ?d1 (.inr ⟨_, rfl, World.news_of_block (heap_alloc_new wr _)⟩) ?d5 ?d2 ?d3 ?d4 ?d6 ?_)
          case d1 => rfl
          case d5 => exact fun e => by cases e
          case d2 => intro u hu; simp at hu; subst hu; rfl
          case d3 => unfold maxLen; omega
          case d4 => omega
          case d6 => have := HB1.out.size; simp; omega
          intro a3 c3 w3 o g
          have HO3 := hid (HAP.out 0 (by have := HE.out; rw [if_pos H0.out] at this; exact this.symm) a3 c3 w3 o)
          have HB3 := hid ((HB1.out.alloc HB1.out.size _).grown g (by have := HB1.out.size; simp; omega) (fun k hk => (HO1.out.lt k hk).1))
          clear o g HO1 HB1 HAP
          go_wp2_with fail
          go_roundw
          case rel => exact ⟨k + 1, a3, c3, by omega, by go_num, rfl, HO3, HB3⟩
          case measure => simp [intOf]; omega
      · have q0 : ((k : Int) == 0) = false := by simp [h0]
        by_cases h1 : s = 1
        · have q1 : (s == 1) = true := by simp [h1]
          go_wp2_with (at_builtin; refine wpList_append_row rfl _ _ 22 rfl w.heap.size 3 i0 (.int .i64 0) 1 8 Try.underlying22 hi hz0 hz1 hz2 rfl (by decide) _ _ _ rfl (HO1.out.alloc _) (some ⟨wr.heap.size, 0, none⟩) 1 1 [.int .i64 1] rfl ?d1 (.inr ⟨_, rfl, World.news_of_block (heap_alloc_new wr _)⟩) ?d5 ?d2 ?d3 ?d4 ?d6 ?_)
          case d1 => rfl
          case d5 => exact fun e => by cases e
          case d2 => intro u hu; simp at hu; subst hu; rfl
          case d3 => unfold maxLen; omega
          case d4 => omega
          case d6 => have := HB1.out.size; simp; omega
          intro a3 c3 w3 o g
          have HO3 := hid (HAP.out 1 (by have := HE.out; rw [if_neg h0, if_pos h1] at this; exact this.symm) a3 c3 w3 o)
          have HB3 := hid ((HB1.out.alloc HB1.out.size _).grown g (by have := HB1.out.size; simp; omega) (fun k hk => (HO1.out.lt k hk).1))
          clear o g HO1 HB1 HAP
          go_wp2_with fail
          go_roundw
          case rel => exact ⟨k + 1, a3, c3, by omega, by go_num, rfl, HO3, HB3⟩
          case measure => simp [intOf]; omega
        · have q1 : (s == 1) = false := by simp [h1]
          go_wp2_with (at_builtin; refine wpList_append_row rfl _ _ 22 rfl w.heap.size 3 i0 (.int .i64 0) 1 8 Try.underlying22 hi hz0 hz1 hz2 rfl (by decide) _ _ _ rfl (HO1.out.alloc _) (some ⟨wr.heap.size, 0, none⟩) 1 1 [.int .i64 2] rfl ?d1 (.inr ⟨_, rfl, World.news_of_block (heap_alloc_new wr _)⟩) ?d5 ?d2 ?d3 ?d4 ?d6 ?_)
          case d1 => rfl
          case d5 => exact fun e => by cases e
          case d2 => intro u hu; simp at hu; subst hu; rfl
          case d3 => unfold maxLen; omega
          case d4 => omega
          case d6 => have := HB1.out.size; simp; omega
          intro a3 c3 w3 o g
          have HO3 := hid (HAP.out 2 (by have := HE.out; rw [if_neg h0, if_neg h1] at this; exact this.symm) a3 c3 w3 o)
          have HB3 := hid ((HB1.out.alloc HB1.out.size _).grown g (by have := HB1.out.size; simp; omega) (fun k hk => (HO1.out.lt k hk).1))
          clear o g HO1 HB1 HAP
          go_wp2_with fail
          go_roundw
          case rel => exact ⟨k + 1, a3, c3, by omega, by go_num, rfl, HO3, HB3⟩
          case measure => simp [intOf]; omega
    · have hlt' : ¬ (k : Int) < (N : Int) := by omega
      obtain rfl : k = N := by omega
      go_wp2_with fail
      go_ret
      exact ⟨_, rfl, HO1.out, HB1.out⟩

set_option maxHeartbeats 1600000 in
theorem spec_StatusSettle {ad : Option Addr} {n : Nat} (cap : Nat) {l : List Int} {w : World} (h : ReadsI w ad n l) (x : Int) :
    Calls Try.prog 18 #[.slice ad n cap, .int .i64 x] w fun e w' => ∃ v, e = .returned v ∧ w'.ownsRow w.heap.size 3 1 v (settleS l x).length (ins (settleS l x)) ∧ Below w.heap.size w w' := by
  by_cases hx : 0 ≤ x ∧ x ≤ 401
  · obtain ⟨N, rfl⟩ : ∃ N : Nat, x = N := ⟨x.toNat, by omega⟩
    rw [settleS_yes l N (by omega), upTo_length]
    exact spec_StatusSettle_yes cap h N (by omega)
  · rw [settleS_no l x hx]
    clear h
    go_enter Try.func18, Try.ntmps18
    go_wp2_with fail
    refine (spec_in8 _ _ _ w).mono ?_
    rintro e w1 ⟨rfl, e1⟩
    subst w1
    rw [decide_eq_false hx]
    go_wp2_with fail
    go_ret
    exact ⟨_, rfl, World.ownsRow_nil _ _ _ _, Below.refl _ _⟩
end Go.Proofs.Ytdlddgejpcbofaa
