/- The specification's hexadecimal digits of bytes. Conditions: at most 2^21 bytes. -/
import Derived.Test.YtoppccfgcccijaaDoorXb18
namespace Go.Proofs.YtoppccfgcccijaaDoor
open Go.RowKit
set_option maxRecDepth 100000

theorem hexB_take (zs : List Int) {k : Nat} (h : k < zs.length) : hexB (zs.take (k + 1)) = hexB (zs.take k) ++ [hexD (zs.getD k 0 / 16)] ++ [hexD (zs.getD k 0 % 16)] := by
  rw [List.take_succ_eq_append_getElem h, hexB_app, List.append_assoc]
  congr 1
  simp [hexB, List.getD, h]
set_option maxHeartbeats 3200000 in
theorem spec_l18hex {ad : Option Addr} {n : Nat} (cap : Nat) {zs : List Int} {w : World} (h : Reads w ad n zs) (hn : n ≤ 2097152) :
    Calls Tryd.prog 28 #[.slice ad n cap] w fun e w' => ∃ v, e = .returned v ∧ w'.ownsRow w.heap.size 5 1 v (hexB zs).length (bys (hexB zs)) ∧ (n = 0 → v = .slice none 0 0) ∧ Below w.heap.size w w' := by
  obtain ⟨i0, hi, hz0, hz1, hz2⟩ := info_parts Tryd.info5
  have HR := hid h
  have HBd := hid h.bd
  have hl := h.len
  have HB0 := hid (Below.alloc1 w (.cells #[.int .u8 48, .int .u8 49, .int .u8 50, .int .u8 51, .int .u8 52, .int .u8 53, .int .u8 54, .int .u8 55, .int .u8 56, .int .u8 57, .int .u8 97, .int .u8 98, .int .u8 99, .int .u8 100, .int .u8 101, .int .u8 102] 5 (16, 17)))
  have HN0 := hid (heap_alloc_new w (.cells #[.int .u8 48, .int .u8 49, .int .u8 50, .int .u8 51, .int .u8 52, .int .u8 53, .int .u8 54, .int .u8 55, .int .u8 56, .int .u8 57, .int .u8 97, .int .u8 98, .int .u8 99, .int .u8 100, .int .u8 101, .int .u8 102] 5 (16, 17)))
  have HZ0 := hid (alloc_size w (.cells #[.int .u8 48, .int .u8 49, .int .u8 50, .int .u8 51, .int .u8 52, .int .u8 53, .int .u8 54, .int .u8 55, .int .u8 56, .int .u8 57, .int .u8 97, .int .u8 98, .int .u8 99, .int .u8 100, .int .u8 101, .int .u8 102] 5 (16, 17)))
  have hcv := Go.Lib.run_convert_bytes_const (P := Tryd.prog) w 23 5 #[.int .u8 48, .int .u8 49, .int .u8 50, .int .u8 51, .int .u8 52, .int .u8 53, .int .u8 54, .int .u8 55, .int .u8 56, .int .u8 57, .int .u8 97, .int .u8 98, .int .u8 99, .int .u8 100, .int .u8 101, .int .u8 102] 16 16 Tryd.underlying23 Tryd.underlying5
  clear h
  go_enter Tryd.func28, Tryd.ntmps28
  go_wp2_with fail
  clear hcv
  generalize w.alloc (.cells #[.int .u8 48, .int .u8 49, .int .u8 50, .int .u8 51, .int .u8 52, .int .u8 53, .int .u8 54, .int .u8 55, .int .u8 56, .int .u8 57, .int .u8 97, .int .u8 98, .int .u8 99, .int .u8 100, .int .u8 101, .int .u8 102] 5 (16, 17)) = U at *
  obtain ⟨gd, hgd⟩ : ∃ gd, w.heap.size = gd := ⟨_, rfl⟩
  have HGd := hid hgd
  rw [hgd] at HN0 HZ0
  try simp only [hgd]
  clear hgd
  have HD := hid (show ∀ d : Int, 0 ≤ d → d < 16 → ∀ W, Below U.heap.size U W → W.cell? ⟨gd, d.toNat, none⟩ = some (.int .u8 (hexD d)) from fun d h0 h1 W b => by
    have hb := (b.block gd (by have := HZ0.out; omega)).trans HN0.out
    rw [cell_of_row _ _ _ _ _ _ hb]
    have : d = 0 ∨ d = 1 ∨ d = 2 ∨ d = 3 ∨ d = 4 ∨ d = 5 ∨ d = 6 ∨ d = 7 ∨ d = 8 ∨ d = 9 ∨ d = 10 ∨ d = 11 ∨ d = 12 ∨ d = 13 ∨ d = 14 ∨ d = 15 := by omega
    rcases this with rfl | rfl | rfl | rfl | rfl | rfl | rfl | rfl | rfl | rfl | rfl | rfl | rfl | rfl | rfl | rfl <;> rfl)
  go_loopw [3, 5] (fun v s wr => ∃ k : Nat, k ≤ n ∧ s = .int .i64 (k : Int) ∧ Hid (k = 0 → v = .slice none 0 0) ∧ Hid (wr.ownsRow U.heap.size 5 1 v (2 * k) (bys (hexB (zs.take k)))) ∧ Hid (Below U.heap.size U wr)) (fun _ s _ => n - (intOf s).toNat)
  case atStart => exact ⟨0, Nat.zero_le _, rfl, hid (fun _ => rfl), hid (World.ownsRow_nil _ _ _ _), hid (Below.refl _ _)⟩
  case round =>
    obtain ⟨k, hk, rfl, HV, HO, HB⟩ := hrel
    have hsz := HB.out.size
    by_cases hlt : k < n
    · have hlt' : (k : Int) < (n : Int) := by omega
      have hk0 : (0 : Int) ≤ (k : Int) := by omega
      have HBw := hid (HB0.out.trans (HB.out.mono HB0.out.size))
      have hrd := HR.out.below HBw.out (Nat.le_refl _)
      obtain ⟨b, off, rfl, hcell⟩ : ∃ b off, ad = some ⟨b, off, none⟩ ∧ ∀ i, i < n → wr.cell? ⟨b, off + i, none⟩ = some (.int .u8 (zs.getD i 0)) := by
        rcases hrd.cells with h0 | h1
        · omega
        · exact h1
      have hz := HBd.out k
      have HT := hid (hexB_take zs (k := k) (by omega))
      have hc := hcell k hlt
      obtain ⟨z, hzk⟩ : ∃ z, zs.getD k 0 = z := ⟨_, rfl⟩
      rw [hzk] at hz HT hc
      have HZk := hid hzk
      clear hzk
      obtain ⟨z1, hz1'⟩ : ∃ z1, z / 16 = z1 := ⟨_, rfl⟩
      obtain ⟨z2, hz2'⟩ : ∃ z2, z % 16 = z2 := ⟨_, rfl⟩
      rw [hz1', hz2'] at HT
      have y1 : 0 ≤ z1 ∧ z1 < 16 := by omega
      have y2 : 0 ≤ z2 ∧ z2 < 16 := by omega
      have c1 := HD.out z1 y1.1 y1.2 wr HB.out
      have y10 := y1.1
      have y11 := y1.2
      have y20 := y2.1
      have y21 := y2.2
      clear y1 y2
      have HA := hid (HO.out.alloc (.cells #[.int .u8 (hexD z1)] 5))
      have HBA := hid (HB.out.alloc hsz (.cells #[.int .u8 (hexD z1)] 5))
      have hsz2 := HBA.out.size
      have HCl := hid hcell
      clear hcell hrd
      go_wp2_with (at_builtin; refine wpList_append_own _ rfl _ _ 23 rfl U.heap.size 5 i0 (.int .u8 0) 1 1 Tryd.underlying23 hi hz0 hz1 hz2 rfl (by decide) _ _ _ rfl HA.out ⟨wr.heap.size, 0, none⟩ 1 1 [.int .u8 (hexD z1)] rfl rfl (cell_one_new _ _ _) ?a2 ?a3 ?a4 ?a5 ?_)
      case a2 => intro u hu; simp at hu; subst hu; rfl
      case a3 => unfold maxLen; omega
      case a4 => omega
      case a5 => first | omega | exact hsz2
      intro v1 w1 hown' hgrow _
      have b1 := HBA.out.grown hgrow hsz2 (fun j hj => (HO.out.lt j hj).1)
      have HB1 := hid b1
      have HO1 := hid hown'
      have hsz3 := b1.size
      have c2 := HD.out z2 y20 y21 w1 b1
      have HBx := hid (HB0.out.trans (b1.mono HB0.out.size))
      have hc1 : w1.cell? ⟨b, off + k, none⟩ = some (.int .u8 z) := by
        rcases (HR.out.below HBx.out (Nat.le_refl _)).cells with h0 | ⟨b', off', e, h1⟩
        · omega
        · cases e
          rw [← HZk.out]
          exact h1 k hlt
      have HA2 := hid (HO1.out.alloc (.cells #[.int .u8 (hexD z2)] 5))
      have HBA2 := hid (HB1.out.alloc hsz3 (.cells #[.int .u8 (hexD z2)] 5))
      have hsz4 := HBA2.out.size
      clear hown' hgrow b1 HA HBA hsz2 HO HB hc c1 HCl
      go_wp2_with (at_builtin; refine wpList_append_own _ rfl _ _ 23 rfl U.heap.size 5 i0 (.int .u8 0) 1 1 Tryd.underlying23 hi hz0 hz1 hz2 rfl (by decide) _ _ _ rfl HA2.out ⟨w1.heap.size, 0, none⟩ 1 1 [.int .u8 (hexD z2)] rfl rfl (cell_one_new _ _ _) ?b2 ?b3 ?b4 ?b5 ?_)
      case b2 => intro u hu; simp at hu; subst hu; rfl
      case b3 => unfold maxLen; omega
      case b4 => omega
      case b5 => first | omega | exact hsz4
      intro v2 w2 hown' hgrow _
      have HB2 := hid (HBA2.out.grown hgrow hsz4 (fun j hj => (HO1.out.lt j hj).1))
      have HO2 := hid (show w2.ownsRow U.heap.size 5 1 v2 (2 * (k + 1)) (bys (hexB (zs.take (k + 1)))) by
        have := hown'
        rw [show 2 * k + 1 + 1 = 2 * (k + 1) by omega] at this
        rw [HT.out, bys_append, bys_append, List.append_assoc]
        exact this)
      clear hown' hgrow HA2 HBA2 hsz4 HO1 HB1 c2 hc1
      go_wp2_with fail
      go_roundw
      case rel => exact ⟨k + 1, by omega, by go_num, hid (fun e => by omega), HO2, HB2⟩
      case measure => simp [intOf]; omega
    · have hlt' : ¬ (k : Int) < (n : Int) := by omega
      obtain rfl : k = n := by omega
      have HBf := hid (HB0.out.trans (HB.out.mono HB0.out.size))
      go_wp2_with fail
      go_ret
      refine ⟨_, rfl, ?_, HV.out, HBf.out⟩
      have := HO.out
      rw [List.take_of_length_le (by omega)] at this
      rw [hexB_len, hl]
      exact owns_lower this (by have := HZ0.out; have := HGd.out; omega)
end Go.Proofs.YtoppccfgcccijaaDoor
