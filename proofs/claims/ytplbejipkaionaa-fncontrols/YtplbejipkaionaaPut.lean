/- The contracts of PutNum, the specification's and the program's: both answer the bytes 'putL', in new memory. For every argument. -/
import Derived.Test.YtplbejipkaionaaHelp
import Derived.Test.YtplbejipkaionaaNum
import Derived.WalkLawsBesides
namespace Go.Proofs.Ytplbejipkaionaa
set_option maxRecDepth 100000
open Go.RowKit

set_option maxHeartbeats 1600000 in
theorem spec_PutNum_yes (n size : Nat) (w : World) (h1 : 1 ≤ size) (h8 : size ≤ 8) (hn : n ≤ 9223372036854775807) :
    Calls Try.prog 28 #[.int .i64 n, .int .i64 size] w fun e w' =>
      ∃ v, e = .returned v ∧ w'.ownsRow w.heap.size 5 1 v (putL n size).length (bys (putL n size)) ∧ Below w.heap.size w w' := by
  obtain ⟨i0, hi, hz0, hz1, hz2⟩ := info_parts Try.info5
  go_enter Try.func28, Try.ntmps28
  go_wp2
  go_loopw [0, 5, 6] (fun sn v i wr => ∃ k : Nat, k ≤ size ∧ i = .int .i64 k ∧ sn = .int .i64 (sh n k : Nat) ∧ wr.ownsRow w.heap.size 5 1 v k (bys (dig n k)) ∧ Below w.heap.size w wr) (fun _ _ i _ => size - (intOf i).toNat)
  case atStart => exact ⟨0, Nat.zero_le _, rfl, by rw [sh_zero], World.ownsRow_nil _ _ _ _, Below.refl _ _⟩
  case round =>
    obtain ⟨k, hk, rfl, rfl, hown, hnx⟩ := hrel
    have hsl := sh_le n k
    have hss := hid (sh_succ n k)
    have hds := hid (dig_succ n k)
    generalize hmk0 : sh n k = m at hsl hss hds
    have hmk := hid hmk0
    clear hmk0
    by_cases hlt : k < size
    · go_wp2_with (at_builtin; refine wpList_append_own _ rfl _ _ 22 rfl w.heap.size 5 i0 (.int .u8 0) 1 1 Try.underlying22 hi hz0 hz1 hz2 rfl (by decide) _ _ _ rfl (hown.alloc _) ⟨wr.heap.size, 0, none⟩ 1 1 [.int .u8 ((m : Int) % 256)] rfl rfl (cell_one_new _ _ _) ?c2 ?c3 ?c4 ?c5 ?_)
      case c2 => intro u hu; simp at hu; subst hu; rfl
      case c3 => unfold maxLen; omega
      case c4 => omega
      case c5 => have := hnx.size; simp; omega
      intro v' w1 hown' hgrow _
      have hnx' : Below w.heap.size w w1 := (hnx.alloc hnx.size _).grown hgrow (by have := hnx.size; simp; omega) (fun j hj => (hown.lt j hj).1)
      have H1 := hid hown'
      clear hown' hgrow hown hnx
      go_wp2
      go_roundw
      case rel =>
        refine ⟨k + 1, by omega, by go_num, ?_, ?_, hnx'⟩
        · rw [hss.out]; go_num
        · rw [hds.out, bys_append]; exact H1.out
      case measure => simp [intOf]; omega
    · obtain rfl : k = size := by omega
      by_cases hm : 0 < m
      · go_wp2
        go_ret
        exact ⟨_, rfl, by rw [putL_big n k (by rw [hmk.out]; exact hm)]; exact World.ownsRow_nil _ _ _ _, hnx⟩
      · go_wp2
        go_ret
        exact ⟨_, rfl, by rw [putL_yes n k h1 h8 (by rw [hmk.out]; omega), dig_length]; exact hown, hnx⟩

set_option maxHeartbeats 1600000 in
theorem spec_PutNum_no (n size : Int) (w : World) (h : ¬ (1 ≤ size ∧ size ≤ 8 ∧ 0 ≤ n)) :
    Calls Try.prog 28 #[.int .i64 n, .int .i64 size] w fun e w' => e = .returned (.slice none 0 0) ∧ w' = w := by
  by_cases a1 : size < 1
  · go_enter Try.func28, Try.ntmps28
    go_wp2
    go_ret
    exact ⟨rfl, rfl⟩
  by_cases a2 : 8 < size
  · go_enter Try.func28, Try.ntmps28
    go_wp2
    go_ret
    exact ⟨rfl, rfl⟩
  have a3 : n < 0 := by omega
  go_enter Try.func28, Try.ntmps28
  go_wp2
  go_ret
  exact ⟨rfl, rfl⟩

theorem spec_PutNum (n size : Int) (w : World) (hn : n ≤ 9223372036854775807) :
    Calls Try.prog 28 #[.int .i64 n, .int .i64 size] w fun e w' =>
      ∃ v, e = .returned v ∧ w'.ownsRow w.heap.size 5 1 v (putL n size).length (bys (putL n size)) ∧ Below w.heap.size w w' := by
  by_cases h : 1 ≤ size ∧ size ≤ 8 ∧ 0 ≤ n
  · obtain ⟨N, rfl⟩ := Int.eq_ofNat_of_zero_le h.2.2
    obtain ⟨S, rfl⟩ := Int.eq_ofNat_of_zero_le (show 0 ≤ size by omega)
    exact spec_PutNum_yes N S w (by omega) (by omega) (by omega)
  · refine (spec_PutNum_no n size w h).mono fun e w' ⟨he, hw⟩ => ?_
    subst hw
    exact ⟨_, he, by rw [putL_no n size h]; exact World.ownsRow_nil _ _ _ _, Below.refl _ _⟩

theorem set_dig (n k size : Nat) (hk : k < size) : (bys (dig n k) ++ List.replicate (size - k) (Value.int .u8 0)).set k (.int .u8 ((sh n k : Int) % 256)) = bys (dig n (k + 1)) ++ List.replicate (size - (k + 1)) (Value.int .u8 0) := by
  rw [List.set_append_right _ _ (by simp [bys, dig_length])]
  obtain ⟨m, hm⟩ : ∃ m, size - k = m + 1 := ⟨size - k - 1, by omega⟩
  rw [hm, show size - (k + 1) = m by omega, bys_length, dig_length, Nat.sub_self, List.replicate_succ, List.set_cons_zero, dig_succ, bys_append]
  simp [bys]

set_option maxHeartbeats 1600000 in
theorem impl_PutNum_yes (n size : Nat) (w : World) (h1 : 1 ≤ size) (h8 : size ≤ 8) (hn : n ≤ 9223372036854775807) :
    Calls Try.prog 24 #[.int .i64 n, .int .i64 size] w fun e w' =>
      ∃ v, e = .returned v ∧ w'.ownsRow w.heap.size 5 1 v (putL n size).length (bys (putL n size)) ∧ Below w.heap.size w w' := by
  obtain ⟨i0, hi, hz0, hz1, hz2⟩ := info_parts Try.info5
  go_enter Try.func24, Try.ntmps24
  go_wp2_with (at_make; refine wpList_make_full _ rfl _ _ 22 rfl w.heap.size 5 i0 (.int .u8 0) 1 Try.underlying22 hi hz0 hz1 _ _ _ _ size rfl rfl (by omega) (by omega) ?b2 ?b3 (Nat.le_refl _) ?_)
  case b2 => rw [hz2]; omega
  case b3 => unfold maxLen; omega
  intro w0 hown0 hgrow0
  go_wp2
  go_loopw [5, 7, 24] (fun r _ i wr => ∃ k : Nat, k ≤ size ∧ i = .int .i64 k ∧ r = .int .u64 (sh n k : Nat) ∧ wr.ownsRow w.heap.size 5 1 (.slice (some ⟨w.heap.size, 0, none⟩) size size) size (bys (dig n k) ++ List.replicate (size - k) (Value.int .u8 0)) ∧ Below w.heap.size w wr)
    (fun _ _ i _ => size - (intOf i).toNat)
  case atStart =>
    refine ⟨0, Nat.zero_le _, rfl, by rw [sh_zero], ?_, (Below.refl _ _).grown hgrow0 (Nat.le_refl _) (fun k h => by cases h)⟩
    rw [toList_madeCells_one] at hown0
    simpa [bys, dig] using hown0
  case round =>
    obtain ⟨k, hk, rfl, rfl, hown, hnx⟩ := hrel
    have hsl := sh_le n k
    have hss := hid (sh_succ n k)
    have hds := hid (fun h => set_dig n k size h)
    generalize hmk0 : sh n k = m at hsl hss hds
    have hmk := hid hmk0
    clear hmk0
    by_cases hlt : k < size
    · have hcy : wr.cell? ⟨w.heap.size, k, none⟩ = some (.int .u8 0) := by
        rw [hown.cellAt k (by omega), List.getElem?_append_right (by simp [bys, dig_length])]
        simp [bys, dig_length, show 0 < size - k by omega]
      have hfr : wr.frozen? ⟨w.heap.size, k, none⟩ = false := hown.frozenAt k
      have R := hown.stored k (.int .u8 ((m : Int) % 256))
      rw [hds.out hlt] at R
      have R1 := hid R
      clear R hown
      go_wp2
      go_roundw
      case rel => exact ⟨k + 1, by omega, by go_num, by rw [hss.out]; go_num, R1.out.1, hnx.setCell (Nat.le_refl _) _⟩
      case measure => simp [intOf]; omega
    · obtain rfl : k = size := by omega
      by_cases hm : 0 < m
      · go_wp2
        go_ret
        exact ⟨_, rfl, by rw [putL_big n k (by rw [hmk.out]; exact hm)]; exact World.ownsRow_nil _ _ _ _, hnx⟩
      · go_wp2
        go_ret
        exact ⟨_, rfl, by rw [putL_yes n k h1 h8 (by rw [hmk.out]; omega), dig_length]; simpa using hown, hnx⟩

set_option maxHeartbeats 1600000 in
theorem impl_PutNum_no (n size : Int) (w : World) (h : ¬ (1 ≤ size ∧ size ≤ 8 ∧ 0 ≤ n)) :
    Calls Try.prog 24 #[.int .i64 n, .int .i64 size] w fun e w' => e = .returned (.slice none 0 0) ∧ w' = w := by
  by_cases a3 : n < 0
  · go_enter Try.func24, Try.ntmps24
    go_wp2
    go_ret
    exact ⟨rfl, rfl⟩
  by_cases a1 : size < 1
  · go_enter Try.func24, Try.ntmps24
    go_wp2
    go_ret
    exact ⟨rfl, rfl⟩
  have a2 : 8 < size := by omega
  go_enter Try.func24, Try.ntmps24
  go_wp2
  go_ret
  exact ⟨rfl, rfl⟩

theorem impl_PutNum (n size : Int) (w : World) (hn : n ≤ 9223372036854775807) :
    Calls Try.prog 24 #[.int .i64 n, .int .i64 size] w fun e w' =>
      ∃ v, e = .returned v ∧ w'.ownsRow w.heap.size 5 1 v (putL n size).length (bys (putL n size)) ∧ Below w.heap.size w w' := by
  by_cases h : 1 ≤ size ∧ size ≤ 8 ∧ 0 ≤ n
  · obtain ⟨N, rfl⟩ := Int.eq_ofNat_of_zero_le h.2.2
    obtain ⟨S, rfl⟩ := Int.eq_ofNat_of_zero_le (show 0 ≤ size by omega)
    exact impl_PutNum_yes N S w (by omega) (by omega) (by omega)
  · refine (impl_PutNum_no n size w h).mono fun e w' ⟨he, hw⟩ => ?_
    subst hw
    exact ⟨_, he, by rw [putL_no n size h]; exact World.ownsRow_nil _ _ _ _, Below.refl _ _⟩
end Go.Proofs.Ytplbejipkaionaa
