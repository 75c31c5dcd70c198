/- Bytes of a string, as a row that is the call's own: read, marked. Conditions: at most 2^21 bytes where they are marked. -/
import Derived.Test.YtoppccfgcccijaaDoorMga
import Derived.Test.YtoppccfgcccijaaDoorSb
import Derived.Lib.ConvBytes
namespace Go.Proofs.YtoppccfgcccijaaDoor
open Go.RowKit
set_option maxRecDepth 100000

/-- A row of bytes of the call's own, none of whose first n places is fixed. -/
def OwF (B : Nat) (w : World) (v : Value) (n : Nat) (L : List Value) : Prop :=
  (v = .slice none 0 0 ∧ n = 0 ∧ L = []) ∨
  ∃ g cap cur fz, v = .slice (some ⟨g, 0, none⟩) n cap ∧ B ≤ g ∧ w.heap[g]? = some (.cells cur 5 fz) ∧ (∀ j, j < n → ¬ (fz.1 ≤ j ∧ j < fz.2)) ∧ L.length = n ∧ n ≤ cur.size ∧ cur.toList.take n = L
theorem OwF.of {B n : Nat} {w : World} {v : Value} {L : List Value} (h : w.ownsRow B 5 1 v n L) : OwF B w v n L := by
  have hl := h.1
  rcases h.2 with ⟨rfl, rfl⟩ | ⟨g, cap, cur, rfl, hb, hg, hnc, hcm, hcs, htake⟩
  · exact .inl ⟨rfl, rfl, List.eq_nil_of_length_eq_zero (by omega)⟩
  · exact .inr ⟨g, cap, cur, (0, 0), rfl, hb, hg, fun j _ e => by simp at e, by omega, by omega, by rw [Nat.mul_one] at htake; exact htake⟩
theorem OwF.below {B C n : Nat} {w w' : World} {v : Value} {L : List Value} (h : OwF B w v n L) (b : Below C w w') (hC : w.heap.size ≤ C) : OwF B w' v n L := by
  rcases h with h | ⟨g, cap, cur, fz, rfl, hb, hg, rest⟩
  · exact .inl h
  · exact .inr ⟨g, cap, cur, fz, rfl, hb, (b.block g (by have := (Array.getElem?_eq_some_iff.1 hg).1; omega)).trans hg, rest⟩
theorem OwF.alloc {B n : Nat} {w : World} {v : Value} {L : List Value} (h : OwF B w v n L) (o : Obj) : OwF B (w.alloc o) v n L := h.below ((Below.refl _ _).alloc (Nat.le_refl _) o) (Nat.le_refl _)
theorem OwF.kept {B n : Nat} {w w' : World} {v : Value} {L : List Value} {row : Option Nat} (h : OwF B w v n L) (hg : w.grownBy w' row) (hne : v.ownBlock = none ∨ v.ownBlock ≠ row) : OwF B w' v n L := by
  rcases h with h | ⟨g, cap, cur, fz, rfl, hb, hgg, rest⟩
  · exact .inl h
  · exact .inr ⟨g, cap, cur, fz, rfl, hb, by rw [hg.block g (Array.getElem?_eq_some_iff.1 hgg).1 (by simpa [Value.ownBlock] using hne)]; exact hgg, rest⟩
theorem Reads.ownF {w : World} {base : Nat} {v : Value} {n : Nat} {zs : List Int} (h : OwF base w v n (bys zs)) (hbd : ∀ i, 0 ≤ zs.getD i 0 ∧ zs.getD i 0 ≤ 255) :
    ∃ ad cap, v = .slice ad n cap ∧ Reads w ad n zs ∧ (ad = none ∨ ∃ g, ad = some ⟨g, 0, none⟩ ∧ base ≤ g ∧ g < w.heap.size) := by
  rcases h with ⟨rfl, rfl, hL⟩ | ⟨g, cap, cur, fz, rfl, hb, hg, _, hl, hn, htake⟩
  · exact ⟨none, 0, rfl, ⟨by have := congrArg List.length hL; simpa [bys] using this, .inl rfl, hbd⟩, .inl rfl⟩
  · have hz : zs.length = n := by rw [← hl, bys_length]
    refine ⟨_, cap, rfl, ⟨hz, .inr ⟨g, 0, rfl, fun i hi => ?_⟩, hbd⟩, .inr ⟨g, rfl, hb, (Array.getElem?_eq_some_iff.1 hg).1⟩⟩
    rw [Nat.zero_add, cell_of_row _ _ _ _ _ _ hg]
    have h1 : (cur.toList.take n)[i]? = (bys zs)[i]? := by rw [htake]
    rw [List.getElem?_take, if_pos hi] at h1
    rw [← Array.getElem?_toList, h1]
    simp [bys, List.getD, List.getElem?_eq_getElem (show i < zs.length by omega)]
theorem OwF.ge {B n : Nat} {w : World} {v : Value} {L : List Value} (h : OwF B w v n L) : ∀ k, v.ownBlock = some k → B ≤ k ∧ k < w.heap.size := by
  intro k hk
  rcases h with ⟨rfl, _⟩ | ⟨g, cap, cur, fz, rfl, hb, hg, _⟩
  · simp [Value.ownBlock] at hk
  · simp [Value.ownBlock] at hk
    subst hk
    exact ⟨hb, (Array.getElem?_eq_some_iff.1 hg).1⟩
theorem OwF.mono {B C n : Nat} {w : World} {v : Value} {L : List Value} (h : OwF B w v n L) (hc : C ≤ B) : OwF C w v n L := by
  rcases h with h | ⟨g, cap, cur, fz, hv, hb, rest⟩
  · exact .inl h
  · exact .inr ⟨g, cap, cur, fz, hv, Nat.le_trans hc hb, rest⟩
theorem OwF.stored {B n g cap : Nat} {w : World} {L : List Value} (h : OwF B w (.slice (some ⟨g, 0, none⟩) n cap) n L) (j : Nat) (u : Value) :
    OwF B (w.setCell ⟨g, j, none⟩ u) (.slice (some ⟨g, 0, none⟩) n cap) n (L.set j u) ∧ w.grownBy (w.setCell ⟨g, j, none⟩ u) (some g) := by
  rcases h with ⟨h', _⟩ | ⟨g', cap', cur, fz, h', hb, hg, hf, hl, hn, htake⟩
  · simp at h'
  · simp only [Value.slice.injEq, Option.some.injEq, Addr.mk.injEq, and_true, true_and] at h'
    obtain ⟨rfl, rfl⟩ := h'
    refine ⟨.inr ⟨g, cap, cur.setIfInBounds j u, fz, rfl, hb, ?_, hf, by rw [List.length_set]; exact hl, by rw [Array.size_setIfInBounds]; exact hn, ?_⟩, ⟨rfl, rfl, rfl, by simp, fun k _ hk => heap_setCell_other w ⟨g, j, none⟩ k u (fun e => hk (by simp [e]))⟩⟩
    · rw [setCell_eq_setRow w g j cur 5 fz u hg]
      exact setRow_heap w g cur _ 5 fz hg
    · rw [Array.toList_setIfInBounds, ← htake, List.take_set]
theorem OwF.at {B n g cap : Nat} {w : World} {L : List Value} (h : OwF B w (.slice (some ⟨g, 0, none⟩) n cap) n L) {j : Nat} (hj : j < n) : w.cell? ⟨g, j, none⟩ = L[j]? ∧ w.frozen? ⟨g, j, none⟩ = false := by
  rcases h with ⟨h', _⟩ | ⟨g', cap', cur, fz, h', hb, hg, hf, hl, hn, htake⟩
  · simp at h'
  · simp only [Value.slice.injEq, Option.some.injEq, Addr.mk.injEq, and_true, true_and] at h'
    obtain ⟨rfl, rfl⟩ := h'
    refine ⟨?_, ?_⟩
    · rw [cell_of_row _ _ _ _ _ _ hg, ← htake, List.getElem?_take, if_pos hj, Array.getElem?_toList]
    · obtain ⟨lo, hi⟩ := fz
      have := hf j hj
      simp only [World.frozen?, hg]
      simp only at this
      rw [← Bool.not_eq_true]
      intro e
      simp at e
      omega
set_option maxHeartbeats 800000 in
theorem markByteS_F {B n : Nat} {v : Value} (k : Int) {xs : List Value} {w : World} (hn : n ≤ 2097152) (hk0 : 0 ≤ k) (hk1 : k ≤ 1000000000) (hown : OwF B w v n xs) :
    Calls Tryd.prog 13 #[v, .int .i64 k] w fun e w' => e = .returned (.int .i64 (k + n)) ∧ OwF B w' v n (bys (marks k n)) ∧ w.grownBy w' v.ownBlock := by
  by_cases hv : v = .slice none 0 0 ∧ n = 0 ∧ xs = []
  · obtain ⟨rfl, rfl, rfl⟩ := hv
    refine (markByteS_zero none 0 k w).mono fun e w' ⟨he, hw⟩ => ?_
    subst hw
    exact ⟨by rw [he]; simp, .inl ⟨rfl, rfl, by simp [marks, bys]⟩, grown_refl _ _⟩
  · have hx := hown
    rcases hown with h | ⟨g, cap, cur, fz, rfl, hb, hg, hf, hl, hnc, htake⟩
    · exact absurd h hv
    clear hv
    have HG : Hid (w.grownBy w (some g)) := hid ⟨rfl, rfl, rfl, Nat.le_refl _, fun _ _ _ => rfl⟩
    have HX := hid hx
    clear hx hf hg hb htake hnc
    go_enter Tryd.func13, Tryd.ntmps13
    go_wp2
    go_loopw [1, 5] (fun kk i wr => ∃ j : Nat, j ≤ n ∧ i = .int .i64 j ∧ kk = .int .i64 (k + j) ∧ Hid (OwF B wr (.slice (some ⟨g, 0, none⟩) n cap) n (bys (marks k j) ++ xs.drop j)) ∧ Hid (w.grownBy wr (some g))) (fun _ i _ => n - (intOf i).toNat)
    case atStart => exact ⟨0, Nat.zero_le _, rfl, by simp, by simpa [marks, bys] using HX, HG⟩
    case round =>
      obtain ⟨j, hj, rfl, rfl, hown', hg⟩ := hrel
      by_cases hlt : j < n
      · obtain ⟨hc, hfr⟩ := hown'.out.at hlt
        have hcy : ∃ v, wr.cell? ⟨g, j, none⟩ = some v := by
          rw [hc]
          exact ⟨_, List.getElem?_eq_getElem (by simp [bys, marks]; omega)⟩
        obtain ⟨v, hcy⟩ := hcy
        have R := hown'.out.stored j (.int .u8 ((k + j) % 256))
        rw [set_mid _ xs j _ (by simp [bys, marks]) (by omega)] at R
        have R1 := hid R
        clear R hown' hc
        go_wp2
        go_roundw
        case rel =>
          refine ⟨j + 1, by omega, by go_num, by go_num, ?_, hid (grown_trans hg.out R1.out.2)⟩
          rw [marks_succ, bys_append]
          exact hid R1.out.1
        case measure => simp [intOf]; omega
      · go_wp2
        go_ret
        obtain rfl : j = n := by omega
        have h1 := hown'.out
        rw [List.drop_eq_nil_of_le (by omega), List.append_nil] at h1
        exact ⟨rfl, h1, hg.out⟩
/-- The bytes of a string. -/
theorem str_size18 (L : List Int) : (str L).size = L.length := by simp [str, ByteArray.size]
theorem str_cells18 {L : List Int} (hL : ∀ i, 0 ≤ L.getD i 0 ∧ L.getD i 0 ≤ 255) : ((str L).data.map fun b => Value.int .u8 b.toNat).toList = bys L := by
  simp only [str, bys, Array.toList_map, List.map_map]
  apply List.map_congr_left
  intro z hz
  obtain ⟨i, hi, rfl⟩ := List.getElem_of_mem hz
  have h := hL i
  rw [List.getD_eq_getElem?_getD, List.getElem?_eq_getElem hi] at h
  simp only [Option.getD_some] at h
  simp only [Function.comp]
  congr 1
  rw [UInt8.toNat_ofNat']
  omega
theorem bytes_own18 {L : List Int} (hL : ∀ i, 0 ≤ L.getD i 0 ∧ L.getD i 0 ≤ 255) (w : World) (c : Nat) : OwF w.heap.size (Lib.bytesWorld w 5 (str L)) (.slice (some ⟨w.heap.size, 0, none⟩) L.length c) L.length (bys L) := by
  have hs := str_size18 L
  refine .inr ⟨w.heap.size, c, _, _, rfl, Nat.le_refl _, Lib.bytesWorld_at_new w 5 (str L), fun j hj e => ?_, bys_length L, ?_, ?_⟩
  · simp only [Lib.bytesCells, Array.size_append, Array.size_map] at e
    have : (str L).data.size = L.length := hs
    omega
  · simp only [Lib.bytesCells, Array.size_append, Array.size_map]
    have : (str L).data.size = L.length := hs
    omega
  · rw [Lib.bytesCells, Array.toList_append, str_cells18 hL, List.take_append_of_le_length (by rw [bys_length]; exact Nat.le_refl _), List.take_of_length_le (by rw [bys_length]; exact Nat.le_refl _)]
theorem bytes_below18 (w : World) (s : ByteArray) (e : TypeId) : Below w.heap.size w (Lib.bytesWorld w e s) :=
  ⟨rfl, rfl, rfl, by rw [Lib.bytesWorld_size]; omega, fun k hk => Lib.bytesWorld_at_old w e s k hk⟩
end Go.Proofs.YtoppccfgcccijaaDoor
