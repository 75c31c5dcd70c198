/- The contract of the program's FrameAt. For slices of at most 2^21 bytes. -/
import Derived.Test.YtplbejipkaionaaFat
namespace Go.Proofs.Ytplbejipkaionaa
set_option maxRecDepth 100000
open Go.RowKit

set_option maxRecDepth 100000 in
set_option maxHeartbeats 1600000 in
theorem impl_FrameAt_no (ad : Option Addr) (n cap : Nat) (at' : Int) (w : World) (hn : n ≤ 2097152) (h : 65536 < n ∨ at' < 0 ∨ (n : Int) < at' + 3) :
    Calls Try.prog 31 #[.slice ad n cap, .int .i64 at'] w fun e w' => e = .returned (.tuple #[.int .i64 0, .slice none 0 0, .int .i64 0, .int .i64 1]) ∧ w' = w := by
  by_cases a1 : 65536 < n
  · go_enter Try.func31, Try.ntmps31
    go_wp2
    exact bodyPost_ret (v := .tuple #[.int .i64 0, .slice none 0 0, .int .i64 0, .int .i64 1]) (by simp [results, Try.results31, go_sem]) rfl ⟨rfl, rfl⟩
  by_cases a2 : at' < 0
  · go_enter Try.func31, Try.ntmps31
    go_wp2
    exact bodyPost_ret (v := .tuple #[.int .i64 0, .slice none 0 0, .int .i64 0, .int .i64 1]) (by simp [results, Try.results31, go_sem]) rfl ⟨rfl, rfl⟩
  have a4 : (n : Int) - 3 < at' := by omega
  go_enter Try.func31, Try.ntmps31
  go_wp2
  exact bodyPost_ret (v := .tuple #[.int .i64 0, .slice none 0 0, .int .i64 0, .int .i64 1]) (by simp [results, Try.results31, go_sem]) rfl ⟨rfl, rfl⟩

set_option maxRecDepth 100000 in
set_option maxHeartbeats 3200000 in
theorem impl_FrameAt_yes {b off n : Nat} (cap : Nat) {zs : List Int} {w : World} (h : Reads w (some ⟨b, off, none⟩) n zs) (hn : n ≤ 65536) (hcap : n ≤ cap) (A : Nat) (hA : A + 3 ≤ n) :
    Calls Try.prog 31 #[.slice (some ⟨b, off, none⟩) n cap, .int .i64 A] w fun e w' =>
      ∃ v, e = .returned (.tuple #[.int .i64 (faOf zs A).k, v, .int .i64 (faOf zs A).n, .int .i64 (faOf zs A).c]) ∧ w'.ownsRow w.heap.size 5 1 v (faOf zs A).b.length (bys (faOf zs A).b) ∧ Below w.heap.size w w' := by
  obtain ⟨i0, hi, hz0, hz1, hz2⟩ := info_parts Try.info5
  have hlen := h.len
  obtain ⟨_, _, e, h1⟩ : ∃ b' off', (some ⟨b, off, none⟩ : Option Addr) = some ⟨b', off', none⟩ ∧ ∀ i, i < n → w.cell? ⟨b', off' + i, none⟩ = some (.int .u8 (zs.getD i 0)) := by
    rcases h.cells with h0 | h0
    · omega
    · exact h0
  cases e
  have hcA := h1 A (by omega)
  clear h1
  have hkb := h.bd A
  have n2 := num_two zs h.bd (A + 1) (by omega)
  rw [show ((A + 1 : Nat) : Int) = (A : Int) + 1 by omega] at n2
  generalize hK0 : zs.getD A 0 = K at hcA hkb
  generalize hN0 : numOf zs ((A : Int) + 1) 2 = N at n2
  have HK := hid hK0
  have HN := hid hN0
  clear hK0 hN0
  obtain ⟨n2a, n2b, n2c⟩ := n2
  obtain ⟨N, rfl⟩ := Int.eq_ofNat_of_zero_le n2b
  by_cases c1 : K = 0
  · have hF := hid (fa_bad zs A N (by omega) (by omega) HN.out (.inl (by rw [HK.out]; exact c1)))
    have c1' : (K == 0) = true := by simp [c1]
    clear c1
    go_enter Try.func31, Try.ntmps31
    go_wp2_with fail
    refine (impl_GetNum cap h (by omega) _ 2 (by omega) (by omega) (by omega)).mono ?_
    rintro e w1 ⟨rfl, rfl⟩
    rw [HN.out, n2a]
    go_wp2_with fail
    rw [hF.out]
    exact bodyPost_ret (v := .tuple #[.int .i64 0, .slice none 0 0, .int .i64 0, .int .i64 2]) (by simp [results, Try.results31, go_sem]) rfl ⟨_, rfl, World.ownsRow_nil _ _ _ _, Below.refl _ _⟩
  have c1' : (K == 0) = false := by simp [c1]
  by_cases c2 : 1000 < N
  · have hF := hid (fa_bad zs A N (by omega) (by omega) HN.out (.inr (by omega)))
    go_enter Try.func31, Try.ntmps31
    go_wp2_with fail
    refine (impl_GetNum cap h (by omega) _ 2 (by omega) (by omega) (by omega)).mono ?_
    rintro e w1 ⟨rfl, rfl⟩
    rw [HN.out, n2a]
    go_wp2_with fail
    rw [hF.out]
    exact bodyPost_ret (v := .tuple #[.int .i64 0, .slice none 0 0, .int .i64 0, .int .i64 2]) (by simp [results, Try.results31, go_sem]) rfl ⟨_, rfl, World.ownsRow_nil _ _ _ _, Below.refl _ _⟩
  have hno : ¬ (zs.getD A 0 = 0 ∨ 1000 < (N : Int)) := by rw [HK.out]; omega
  by_cases c3 : n < A + 7 + N
  · have hF := hid (fa_short zs A N (by omega) (by omega) HN.out hno (by omega))
    obtain ⟨n4a, n4b⟩ := num_no zs ((A : Int) + 3 + N) 4 (by omega)
    have n4c := hid n4b
    clear hno n4b
    go_enter Try.func31, Try.ntmps31
    go_wp2_with fail
    refine (impl_GetNum cap h (by omega) _ 2 (by omega) (by omega) (by omega)).mono ?_
    rintro e w1 ⟨rfl, rfl⟩
    rw [HN.out, n2a]
    go_wp2_with fail
    refine (impl_GetNum cap h (by omega) _ 4 (by omega) (by omega) (by omega)).mono ?_
    rintro e w2 ⟨rfl, rfl⟩
    rw [n4c.out, n4a]
    go_wp2_with fail
    rw [hF.out]
    exact bodyPost_ret (v := .tuple #[.int .i64 0, .slice none 0 0, .int .i64 0, .int .i64 1]) (by simp [results, Try.results31, go_sem]) rfl ⟨_, rfl, World.ownsRow_nil _ _ _ _, Below.refl _ _⟩
  have n4 := num_four zs h.bd (A + 3 + N) (by omega)
  rw [show ((A + 3 + N : Nat) : Int) = (A : Int) + 3 + N by omega] at n4
  have hFs := hid (fa_sum zs A N (by omega) (by omega) HN.out hno (by omega))
  have hFw := hid (fa_well zs A N (by omega) (by omega) HN.out hno (by omega))
  generalize hS0 : numOf zs ((A : Int) + 3 + N) 4 = S at n4 hFs hFw
  have HS := hid hS0
  have HC := hid (h.cut A (3 + N) (by omega))
  have HB := hid (h.cut (A + 3) N (by omega))
  generalize hC0 : crcOf (sub zs A (3 + N)) = C at hFs hFw
  have HCr := hid hC0
  obtain ⟨n4a, n4b, n4c⟩ := n4
  clear hS0 hC0 hno
  have t1 : A + 3 + N - A = 3 + N := by omega
  have t2 : A + 3 + N - (A + 3) = N := by omega
  by_cases c4 : S = C
  · have c4' : (S != C) = false := by simp [c4]
    have hF : Hid _ := hFw.out c4
    clear hFs hFw
    have C4 := hid c4
    clear c4
    go_enter Try.func31, Try.ntmps31
    go_wp2_with fail
    refine (impl_GetNum cap h (by omega) _ 2 (by omega) (by omega) (by omega)).mono ?_
    rintro e w1 ⟨rfl, rfl⟩
    rw [HN.out, n2a]
    go_wp2_with fail
    refine (impl_GetNum cap h (by omega) _ 4 (by omega) (by omega) (by omega)).mono ?_
    rintro e w2 ⟨rfl, rfl⟩
    rw [HS.out, n4a]
    go_wp2_with fail
    refine (impl_Crc (cap - A) HC.out (by omega)).mono ?_
    rintro e w3 ⟨rfl, b3⟩
    rw [HCr.out]
    have z3 := b3.size
    go_wp2_with (at_make; refine wpList_make_full _ rfl _ _ 22 rfl w3.heap.size 5 i0 (.int .u8 0) 1 Try.underlying22 hi hz0 hz1 _ _ _ _ N rfl rfl (by omega) (by omega) ?b2 ?b3 (Nat.le_refl _) ?_)
    case b2 => rw [hz2]; omega
    case b3 => unfold maxLen; omega
    intro w4 o4 g4
    rw [toList_madeCells_one] at o4
    have b4 : Below w3.heap.size w3 w4 := (Below.refl _ _).grown g4 (Nat.le_refl _) (fun k h => by cases h)
    have B4 := b3.trans (b4.mono z3)
    obtain ⟨w5, hcp, HR5, b5, z5⟩ := copy_in (g := w3.heap.size) (off := 0) (dp := some ⟨w3.heap.size, 0, none⟩) (own_block o4) (HB.out.below B4 (Nat.le_refl _)) (fun _ => rfl) (by simp) B4 z3 N (cap - (A + 3))
    have HZ5 := hid z5
    clear o4 g4 z5
    go_wp2_with fail
    rw [hF.out]
    have hbl : (sub zs (A + 3) N).length = N := HB.out.len
    have hb2 : (bys (sub zs (A + 3) N)).length = N := by rw [bys_length, hbl]
    have e5 : splice (List.replicate N (Value.int .u8 0)) 0 (bys (sub zs (A + 3) N)) = bys (sub zs (A + 3) N) := by
      have := splice_end [] N (bys (sub zs (A + 3) N))
      rw [hb2, Nat.sub_self] at this
      simpa [zer] using this
    refine bodyPost_ret (v := .tuple #[.int .i64 K, .slice (some ⟨w3.heap.size, 0, none⟩) N N, .int .i64 ((A : Int) + 3 + N + 4), .int .i64 0]) (by simp [results, Try.results31, go_sem]) rfl ⟨.slice (some ⟨w3.heap.size, 0, none⟩) N N, ?_, ?_, b5⟩
    · show _ = Ending.returned (.tuple #[.int .i64 (zs.getD A 0), .slice (some ⟨w3.heap.size, 0, none⟩) N N, .int .i64 ((A : Int) + 7 + N), .int .i64 0])
      rw [HK.out, show (A : Int) + 3 + N + 4 = A + 7 + N by omega]
    · show World.ownsRow _ _ _ _ _ (sub zs (A + 3) N).length (bys (sub zs (A + 3) N))
      rw [hbl]
      refine ⟨by rw [hb2, Nat.mul_one], .inr ⟨w3.heap.size, N, _, rfl, z3, HR5.out, Nat.le_refl _, by unfold maxLen; omega, ?_, ?_⟩⟩
      · rw [e5]; simp [hb2]
      · rw [e5]; exact List.take_of_length_le (by simp [hb2])
  · have c4' : (S != C) = true := by simp [c4]
    have hF : Hid _ := hFs.out c4
    clear hFs hFw
    have C4 := hid c4
    clear c4
    go_enter Try.func31, Try.ntmps31
    go_wp2_with fail
    refine (impl_GetNum cap h (by omega) _ 2 (by omega) (by omega) (by omega)).mono ?_
    rintro e w1 ⟨rfl, rfl⟩
    rw [HN.out, n2a]
    go_wp2_with fail
    refine (impl_GetNum cap h (by omega) _ 4 (by omega) (by omega) (by omega)).mono ?_
    rintro e w2 ⟨rfl, rfl⟩
    rw [HS.out, n4a]
    go_wp2_with fail
    refine (impl_Crc (cap - A) HC.out (by omega)).mono ?_
    rintro e w3 ⟨rfl, b3⟩
    rw [HCr.out]
    go_wp2_with fail
    rw [hF.out]
    exact bodyPost_ret (v := .tuple #[.int .i64 0, .slice none 0 0, .int .i64 0, .int .i64 3]) (by simp [results, Try.results31, go_sem]) rfl ⟨_, rfl, World.ownsRow_nil _ _ _ _, b3⟩

theorem impl_FrameAt {b off n : Nat} (cap : Nat) {zs : List Int} {w : World} (h : Reads w (some ⟨b, off, none⟩) n zs) (hn : n ≤ 2097152) (hcap : n ≤ cap) (at' : Int) (h1 : -9223372036854775808 ≤ at') (h2 : at' ≤ 9223372036854775807) :
    Calls Try.prog 31 #[.slice (some ⟨b, off, none⟩) n cap, .int .i64 at'] w fun e w' =>
      ∃ v, e = .returned (.tuple #[.int .i64 (faOf zs at').k, v, .int .i64 (faOf zs at').n, .int .i64 (faOf zs at').c]) ∧ w'.ownsRow w.heap.size 5 1 v (faOf zs at').b.length (bys (faOf zs at').b) ∧ Below w.heap.size w w' := by
  by_cases hc : 65536 < n ∨ at' < 0 ∨ (n : Int) < at' + 3
  · rw [fa_no zs at' (by rw [h.len]; exact hc)]
    refine (impl_FrameAt_no (some ⟨b, off, none⟩) n cap at' w hn hc).mono fun e w' ⟨he, hw⟩ => ?_
    subst hw
    exact ⟨_, he, World.ownsRow_nil _ _ _ _, Below.refl _ _⟩
  · obtain ⟨A, rfl⟩ := Int.eq_ofNat_of_zero_le (show 0 ≤ at' by omega)
    exact impl_FrameAt_yes cap h (by omega) hcap A (by omega)
end Go.Proofs.Ytplbejipkaionaa
