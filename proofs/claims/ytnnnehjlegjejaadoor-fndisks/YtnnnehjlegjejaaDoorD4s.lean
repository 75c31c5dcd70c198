/- The contract of the draw of a sector: 64 bytes in new memory. For codes of at most 2^21 bytes. -/
import Derived.Test.YtnnnehjlegjejaaDoorDrawo
namespace Go.Proofs.YtnnnehjlegjejaaDoor
open Go.RowKit

theorem bd_set {L : List Int} {y : Int} (k : Nat) (hb : ∀ i, 0 ≤ L.getD i 0 ∧ L.getD i 0 ≤ 255) (h0 : 0 ≤ y) (h1 : y ≤ 255) : ∀ i, 0 ≤ (L.set k y).getD i 0 ∧ (L.set k y).getD i 0 ≤ 255 := by
  intro i
  by_cases h : k < L.length
  · rw [getD_set' L k i y 0 h]
    split
    · exact ⟨h0, h1⟩
    · exact hb i
  · rw [List.set_eq_of_length_le (by omega)]; exact hb i
theorem bys_set (L : List Int) (k : Nat) (y : Int) : (bys L).set k (.int .u8 y) = bys (L.set k y) := by
  unfold bys; rw [List.map_set]

set_option maxRecDepth 100000 in
set_option maxHeartbeats 3200000 in
theorem l4sector {w : World} {g : Nat} {ad : Option Addr} {n cap : Nat} {zs : List Int} (c : Cur w g ad n cap zs) (hn : n ≤ 2097152) :
    Calls Tryd.prog 32 #[.pointer (some ⟨g, 0, none⟩)] w fun e w' => ∃ (v : Value) (L : List Int), e = .returned v ∧ L.length = 64 ∧ w'.ownsRow w.heap.size 5 1 v 64 (bys L) ∧ (∀ i, 0 ≤ L.getD i 0 ∧ L.getD i 0 ≤ 255) ∧ Cur w' g ad n cap zs ∧ w.grownBy w' (some g) := by
  obtain ⟨i0, hi, hz0, hz1, hz2⟩ := info_parts Tryd.info5
  have hgl := c.lt
  go_enter Tryd.func32, Tryd.ntmps32
  go_wp2_with (at_make; refine wpList_make_full _ rfl _ _ 22 rfl w.heap.size 5 i0 (.int .u8 0) 1 Tryd.underlying22 hi hz0 hz1 _ _ _ _ 64 rfl rfl (by omega) (by omega) ?b2 ?b3 (Nat.le_refl _) ?_)
  case b2 => rw [hz2]; omega
  case b3 => unfold maxLen; omega
  intro w0 hown0 hgrow0
  rw [toList_madeCells_one] at hown0
  have O0 := hid (show w0.ownsRow w.heap.size 5 1 (.slice (some ⟨w.heap.size, 0, none⟩) 64 64) 64 (bys (List.replicate 64 0)) by simpa [bys] using hown0)
  have c0 := c.other hgrow0 (fun k hk => by cases hk)
  have g0 : w.grownBy w0 (some g) := grown_new ⟨rfl, rfl, rfl, Nat.le_refl _, fun _ _ _ => rfl⟩ hgrow0 (fun k hk => by cases hk)
  clear hown0 hgrow0 c
  go_wp2_with fail
  refine (l1Below c0 hn 6 (by omega) (by omega)).mono ?_
  rintro e w1 ⟨x, rfl, hx0, hx1, c1, g1⟩
  obtain ⟨x, rfl⟩ := Int.eq_ofNat_of_zero_le hx0
  have O1 := hid (O0.out.kept g1 (.inr (by simp [Value.ownBlock]; omega)))
  have G1 := grown_trans g0 g1
  clear c0 g0 g1 O0
  go_wp2_with fail
  go_loopw [4] (fun i wr => ∃ (k : Nat) (L : List Int), k ≤ x ∧ i = .int .i64 k ∧ L.length = 64 ∧ Hid (wr.ownsRow w.heap.size 5 1 (.slice (some ⟨w.heap.size, 0, none⟩) 64 64) 64 (bys L)) ∧ Hid (∀ i, 0 ≤ L.getD i 0 ∧ L.getD i 0 ≤ 255) ∧ Cur wr g ad n cap zs ∧ w.grownBy wr (some g)) (fun i _ => (intOf i).toNat)
  case atStart => exact ⟨x, List.replicate 64 0, Nat.le_refl _, rfl, by simp, O1, hid (fun i => by rw [List.getD_eq_getElem?_getD, List.getElem?_replicate]; split <;> simp), c1, G1⟩
  case round =>
    obtain ⟨k, L, hk, rfl, hL, hown, hbd, cr, gr⟩ := hrel
    by_cases hlt : 0 < k
    · have hlt' : (0 : Int) < (k : Int) := by omega
      clear c1 G1 O1
      go_wp2_with fail
      refine (l1Below cr hn 64 (by omega) (by omega)).mono ?_
      rintro e w2 ⟨y, rfl, hy0, hy1, c2, g2⟩
      obtain ⟨y, rfl⟩ := Int.eq_ofNat_of_zero_le hy0
      go_wp2_with fail
      refine (l1Byte c2 hn).mono ?_
      rintro e w3 ⟨t, rfl, ht0, ht1, c3, g3⟩
      have hne : (Value.slice (some ⟨w.heap.size, 0, none⟩) 64 64).ownBlock ≠ some g := by simp [Value.ownBlock]; omega
      have o3 := (hown.out.kept g2 (.inr hne)).kept g3 (.inr hne)
      have hyl : y < 64 := by omega
      have d0 : w3.cell? ⟨w.heap.size, y, none⟩ = some (.int .u8 (L.getD y 0)) := by
        rw [o3.cellAt y hyl]
        simp only [bys, List.getElem?_map, List.getD_eq_getElem?_getD, List.getElem?_eq_getElem (show y < L.length by omega)]
        rfl
      have f0 : w3.frozen? ⟨w.heap.size, y, none⟩ = false := o3.frozenAt y
      have R := o3.stored y (.int .u8 t)
      rw [bys_set] at R
      have R1 := hid R
      have G3 := grown_trans (grown_trans gr g2) g3
      have hz : w.heap.size ≤ w3.heap.size := G3.size
      have GS := hid (grown_new G3 (grown_setCell w3 w.heap.size y (.int .u8 t)) (fun r hr => by cases hr; exact Nat.le_refl _))
      have CS := hid (c3.other (grown_setCell w3 w.heap.size y (.int .u8 t)) (fun r hr => by cases hr; exact hgl))
      have LL := hid (bd_set y hbd.out ht0 ht1)
      generalize L.getD y 0 = old at d0
      clear R o3 hown g2 g3 c2 c3 gr cr G3 hbd
      go_wp2_with fail
      go_roundw
      case rel => exact ⟨k - 1, L.set y t, by omega, by go_num, by simpa using hL, hid (by simpa using R1.out.1), LL, CS.out, GS.out⟩
      case measure => simp [intOf]; omega
    · have hlt' : ¬ (0 : Int) < (k : Int) := by omega
      go_wp2_with fail
      go_ret
      exact ⟨_, rfl, L, hL, hown.out, hbd.out, cr, gr⟩
end Go.Proofs.YtnnnehjlegjejaaDoor
