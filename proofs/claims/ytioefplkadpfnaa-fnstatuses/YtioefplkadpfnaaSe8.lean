/- The contract of the program's StatusBytes. Conditions: lists of at most 2^40 numbers. -/
import Derived.Test.YtioefplkadpfnaaSd8
namespace Go.Proofs.Ytioefplkadpfnaa
open Go.RowKit
set_option maxRecDepth 100000

def zeroA : Array Value := (List.replicate 101 (Value.int .u8 0)).toArray
theorem zero_arr (w : World) : (zeroValue 86).run Try.prog w = .ok (.agg zeroA) w := by kernel_rfl
theorem zeroA_eq : zeroA = (bys (List.replicate 101 0)).toArray := by simp [zeroA, bys]
theorem reads_one {w : World} {g : Nat} {v : Value} {z : List Int} (h : w.heap[g]? = some (.cells #[v] 22 (0, 0))) (r : Row w v z) : ReadsS w (some ⟨g, 0, none⟩) [z] := by
  refine ⟨.inr ⟨g, 0, rfl, fun i hi => ?_⟩⟩
  obtain rfl : i = 0 := by simpa using hi
  exact ⟨v, by rw [cell_of_row _ _ _ _ _ _ h]; rfl, r⟩

theorem owns_lower8 {w : World} {b1 b2 : Nat} {e : TypeId} {s n : Nat} {v : Value} {xs : List Value} (h : w.ownsRow b1 e s v n xs) (hb : b2 ≤ b1) : w.ownsRow b2 e s v n xs := by
  refine ⟨h.1, ?_⟩
  rcases h.2 with hn | ⟨g, cap, cur, rfl, hbg, hg, rest⟩
  · exact .inl hn
  · exact .inr ⟨g, cap, cur, rfl, Nat.le_trans hb hbg, hg, rest⟩

set_option maxHeartbeats 3200000 in
theorem impl_StatusBytes_yes {ad : Option Addr} {n : Nat} (cap : Nat) {l : List Int} {w : World} (h : ReadsI w ad n l) (hn : n ≤ 401) :
    Calls Try.prog 26 #[.slice ad n cap] w fun e w' => ∃ v, e = .returned v ∧ w'.ownsRow w.heap.size 5 1 v (stB l).length (bys (stB l)) ∧ Below w.heap.size w w' := by
  have hz := zero_arr
  have HR := hid h
  have hl := h.len
  have q1 : ¬ (401 : Int) < (n : Int) := by omega
  have HE := hid (show stB l = pbs l n ((n + 3) / 4) by unfold stB; rw [hl, if_pos hn])
  have HA0 := hid (show Arr (w.alloc (.cells zeroA 86)) w.heap.size (pbs l 1 101) from ⟨by rw [pbs_start, ← zeroA_eq]; exact heap_alloc_new _ _, pbs_length _ _ _, pbs_bd _ _ _⟩)
  have HB0 := hid (Below.alloc1 w (.cells zeroA 86))
  clear h hl
  go_enter Try.func26, Try.ntmps26
  go_wp2_with fail
  generalize w.alloc (.cells zeroA 86) = W at *
  go_loopw [4] (fun i wr => ∃ k : Nat, 1 ≤ k ∧ k ≤ max n 1 ∧ i = .int .i64 k ∧ Hid (Arr wr w.heap.size (pbs l k 101)) ∧ Hid (Below w.heap.size w wr)) (fun i _ => n - (intOf i).toNat)
  case atStart => exact ⟨1, Nat.le_refl _, by omega, rfl, HA0, HB0⟩
  case round =>
    obtain ⟨k, hk1, hk2, rfl, HA, HB⟩ := hrel
    clear HA0 HB0 hz
    by_cases hlt : k < n
    · have hlt' : (k : Int) < (n : Int) := by omega
      have HR1 := hid (HR.out.below HB.out (Nat.le_refl _))
      go_wp2_with fail
      refine (impl_StatusOf cap HR1.out (by omega) k).mono ?_
      rintro e w1 ⟨rfl, e1⟩
      subst w1
      clear HR1
      go_wp2_with fail
      refine (put_arr HA.out (by omega) (stOf l k) (stOf_bd _ _).1 (stOf_bd _ _).2 (nb := pb l (k + 1) (k / 4)) (pb_bd _ _ _) (fun E hE => by rw [pbs_at _ _ _ _ (by omega)]; exact pb_or l k (k % 4) E rfl hE)).mono ?_
      rintro e w1 ⟨rfl, hA, hg⟩
      rw [pbs_set] at hA
      have HA1 := hid hA
      have HB1 := hid (HB.out.grown hg HB.out.size (fun k hk => by cases hk; exact Nat.le_refl _))
      clear hA hg HA HB
      go_wp2_with fail
      go_roundw
      case rel => exact ⟨k + 1, by omega, by omega, by go_num, HA1, HB1⟩
      case measure => simp [intOf]; omega
    · have hlt' : ¬ (k : Int) < (n : Int) := by omega
      go_wp2_with fail
      refine (impl_statusSize n (by omega) wr).mono ?_
      rintro e w1 ⟨rfl, e1⟩
      subst w1
      obtain ⟨m, hm⟩ : ∃ m, (n + 3) / 4 = m := ⟨_, rfl⟩
      rw [hm]
      have hm1 : m ≤ 101 := by omega
      have hm0 : (0 : Int) ≤ (m : Int) := by omega
      have hm2 : (m : Int) ≤ 101 := by omega
      have HRd := hid (show Reads wr (some ⟨w.heap.size, 0, none⟩) m (pbs l n m) by
        have e : pbs l n m = pbs l k m := by
          by_cases h1 : k = n
          · rw [h1]
          · have h0 : n = 0 := by omega
            have hm00 : m = 0 := by omega
            rw [hm00]; rfl
        rw [e]
        refine ⟨pbs_length _ _ _, .inr ⟨_, 0, rfl, fun i hi => ?_⟩, pbs_bd _ _ _⟩
        rw [Nat.zero_add, HA.out.cell (by omega), pbs_at _ _ _ _ (by omega), pbs_at _ _ _ _ hi])
      rw [hm] at HE
      clear HA hm
      go_wp2_with fail
      have RG := heap_alloc_new wr (.cells #[.slice (some ⟨w.heap.size, 0, none⟩) m 101] 22)
      have bA := Below.alloc1 wr (.cells #[.slice (some ⟨w.heap.size, 0, none⟩) m 101] 22)
      have r1 : Row (wr.alloc (.cells #[.slice (some ⟨w.heap.size, 0, none⟩) m 101] 22)) (.slice (some ⟨w.heap.size, 0, none⟩) m 101) (pbs l n m) :=
        ⟨_, 101, by rw [pbs_length], by rw [pbs_length]; exact HRd.out.below bA (Nat.le_refl _), (fun e => by cases e), by rw [pbs_length]; unfold maxLen; omega⟩
      refine (impl_joined (m := 1) 1 (reads_one RG r1) rfl (by omega) (by simp [tot, pbs_length]; omega)).mono ?_
      rintro e v6 ⟨x6, rfl, o, b⟩
      rw [show tot [pbs l n m] = (stB l).length by rw [HE.out]; simp [tot], show [pbs l n m].flatten = stB l by rw [HE.out]; simp] at o
      have HO := hid (owns_lower8 o (show w.heap.size ≤ _ from Nat.le_trans HB.out.size bA.size))
      have HF := hid (HB.out.trans ((bA.trans (b.mono bA.size)).mono HB.out.size))
      clear o b RG r1 HB bA
      go_wp2_with fail
      go_ret
      exact ⟨_, rfl, HO.out, HF.out⟩

theorem stB_no {l : List Int} (h : ¬ l.length ≤ 401) : stB l = [] := by unfold stB; rw [if_neg h]
set_option maxHeartbeats 1600000 in
theorem impl_StatusBytes {ad : Option Addr} {n : Nat} (cap : Nat) {l : List Int} {w : World} (h : ReadsI w ad n l) :
    Calls Try.prog 26 #[.slice ad n cap] w fun e w' => ∃ v, e = .returned v ∧ w'.ownsRow w.heap.size 5 1 v (stB l).length (bys (stB l)) ∧ Below w.heap.size w w' := by
  by_cases hn : n ≤ 401
  · exact impl_StatusBytes_yes cap h hn
  · rw [stB_no (by rw [h.len]; exact hn)]
    have q1 : (401 : Int) < (n : Int) := by omega
    clear h
    go_enter Try.func26, Try.ntmps26
    go_wp2_with fail
    go_ret
    exact ⟨_, rfl, World.ownsRow_nil _ _ _ _, Below.refl _ _⟩

end Go.Proofs.Ytioefplkadpfnaa
