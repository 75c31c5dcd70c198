/- The specification's bytes out of pairs of hexadecimal digits. Conditions: at most 2^21 bytes. -/
import Derived.Test.YtoppccfgcccijaaDoorXc18
namespace Go.Proofs.YtoppccfgcccijaaDoor
open Go.RowKit
set_option maxRecDepth 100000

def dv (c : Int) : Int := (unD c).getD 0
def prN (zs : List Int) (m : Nat) : List Int := (List.range m).map (fun j => dv (zs.getD (2 * j) 0) * 16 + dv (zs.getD (2 * j + 1) 0))
theorem prN_len (zs : List Int) (m : Nat) : (prN zs m).length = m := by simp [prN]
theorem prN_succ (zs : List Int) (m : Nat) : prN zs (m + 1) = prN zs m ++ [dv (zs.getD (2 * m) 0) * 16 + dv (zs.getD (2 * m + 1) 0)] := by simp [prN, List.range_succ]
/-- The digit that waits for its other half. -/
def hfN (zs : List Int) (k : Nat) : Int := if k % 2 = 1 then dv (zs.getD (k - 1) 0) else 0
theorem unD_bd {c d : Int} (h : unD c = some d) : 0 ≤ d ∧ d ≤ 15 := by
  unfold unD at h
  split at h
  · cases h; omega
  · split at h
    · cases h; omega
    · cases h
theorem dv_bd (c : Int) : 0 ≤ dv c ∧ dv c ≤ 15 := by
  unfold dv
  cases h : unD c with
  | none => simp
  | some d => exact unD_bd h
def allX (zs : List Int) : Bool := zs.all (fun c => (unD c).isSome)
theorem allX_no {zs : List Int} {k : Nat} (hk : k < zs.length) (h : unD (zs.getD k 0) = none) : allX zs = false := by
  unfold allX
  rw [List.all_eq_false]
  refine ⟨zs.getD k 0, ?_, by rw [h]; simp⟩
  rw [List.getD_eq_getElem?_getD, List.getElem?_eq_getElem hk]
  exact List.getElem_mem hk
theorem allX_yes {zs : List Int} (h : ∀ k, k < zs.length → (unD (zs.getD k 0)).isSome = true) : allX zs = true := by
  unfold allX
  rw [List.all_eq_true]
  intro c hc
  obtain ⟨i, hi, rfl⟩ := List.mem_iff_getElem.1 hc
  have := h i hi
  rwa [List.getD_eq_getElem?_getD, List.getElem?_eq_getElem hi] at this
/-- What l18unhex answers. -/
def unH (zs : List Int) : List Int × Bool := if allX zs = true then (prN zs (zs.length / 2), decide (zs.length % 2 = 0)) else ([], false)
set_option maxHeartbeats 6400000 in
theorem spec_l18unhex {ad : Option Addr} {n : Nat} (cap : Nat) {zs : List Int} {w : World} (h : Reads w ad n zs) (hn : n ≤ 2097152) :
    Calls Tryd.prog 35 #[.slice ad n cap] w fun e w' => ∃ v, e = .returned (.tuple #[v, .bool (unH zs).2]) ∧ w'.ownsRow w.heap.size 5 1 v (unH zs).1.length (bys (unH zs).1) ∧ Below w.heap.size w w' := by
  obtain ⟨i0, hi, hz0, hz1, hz2⟩ := info_parts Tryd.info5
  have HR := hid h
  have HBd := hid h.bd
  have HL := hid h.len
  clear h
  go_enter Tryd.func35, Tryd.ntmps35
  go_wp2_with fail
  go_loopw [4, 5, 6] (fun v hf s wr => ∃ k : Nat, k ≤ n ∧ s = .int .i64 (k : Int) ∧ hf = .int .i64 (hfN zs k) ∧ Hid (∀ j, j < k → (unD (zs.getD j 0)).isSome = true) ∧ Hid (wr.ownsRow w.heap.size 5 1 v (k / 2) (bys (prN zs (k / 2)))) ∧ Hid (Below w.heap.size w wr)) (fun _ _ s _ => n - (intOf s).toNat)
  case atStart => exact ⟨0, Nat.zero_le _, rfl, rfl, hid (fun j hj => by omega), hid (World.ownsRow_nil _ _ _ _), hid (Below.refl _ _)⟩
  case round =>
    obtain ⟨k, hk, rfl, rfl, HX, HO, HB⟩ := hrel
    have hsz := HB.out.size
    by_cases hlt : k < n
    · have hlt' : (k : Int) < (n : Int) := by omega
      have hk0 : (0 : Int) ≤ (k : Int) := by omega
      obtain ⟨b, off, rfl, hcell⟩ : ∃ b off, ad = some ⟨b, off, none⟩ ∧ ∀ i, i < n → wr.cell? ⟨b, off + i, none⟩ = some (.int .u8 (zs.getD i 0)) := by
        rcases (HR.out.below HB.out (Nat.le_refl _)).cells with h0 | h1
        · omega
        · exact h1
      have hz := HBd.out k
      have hc := hcell k hlt
      have HLk := hid (show k < zs.length by have := HL.out; omega)
      obtain ⟨z, hzk⟩ : ∃ z, zs.getD k 0 = z := ⟨_, rfl⟩
      rw [hzk] at hz hc
      have HZk := hid hzk
      obtain ⟨H, hH⟩ : ∃ H, hfN zs k = H := ⟨_, rfl⟩
      rw [hH]
      have hHb : 0 ≤ H ∧ H ≤ 15 := by
        rw [← hH]
        unfold hfN
        split
        · exact dv_bd _
        · omega
      have hH0 := hHb.1
      have hH1 := hHb.2
      have hzl := hz.1
      have hzu := hz.2
      have HHf := hid hH
      clear hzk hH hcell hHb hz
      by_cases h1 : 48 ≤ z
      · by_cases h2 : z ≤ 57
        · skip
          have hdv : unD z = some (z - 48) := by unfold unD; rw [if_pos (by omega)]
          have HSm := hid (show (unD (zs.getD k 0)).isSome = true by rw [HZk.out, hdv]; rfl)
          have HDv := hid (show dv (zs.getD k 0) = (z - 48) by rw [HZk.out]; unfold dv; rw [hdv]; rfl)
          clear hdv
          obtain ⟨dd, hdd⟩ : ∃ dd, z - 48 = dd := ⟨_, rfl⟩
          rw [hdd] at HDv
          have hd0 : 0 ≤ dd ∧ dd ≤ 15 := by omega
          have hwd : IntKind.i64.wrap dd = dd := by simp [IntKind.wrap, IntKind.bits, IntKind.signed]; omega
          have hwm : IntKind.i64.wrap (H * 16) = H * 16 := by simp [IntKind.wrap, IntKind.bits, IntKind.signed]; omega
          have hws : IntKind.i64.wrap (H * 16 + dd) = H * 16 + dd := by simp [IntKind.wrap, IntKind.bits, IntKind.signed]; omega
          have hwb : IntKind.u8.wrap (H * 16 + dd) = H * 16 + dd := by simp [IntKind.wrap, IntKind.bits, IntKind.signed]; omega
          by_cases hodd : k % 2 = 1
          · have hm : (k : Int) % 2 = 1 := by omega
            have HPr := hid (show prN zs ((k + 1) / 2) = prN zs (k / 2) ++ [H * 16 + dd] by
              rw [show (k + 1) / 2 = k / 2 + 1 by omega, prN_succ, show 2 * (k / 2) = k - 1 by omega, show k - 1 + 1 = k by omega, HDv.out, ← HHf.out]
              unfold hfN
              rw [if_pos hodd])
            have HHn := hid (show hfN zs (k + 1) = 0 by unfold hfN; rw [if_neg (by omega)])
            have HA := hid (HO.out.alloc (.cells #[.int .u8 (H * 16 + dd)] 5))
            have HBA := hid (HB.out.alloc hsz (.cells #[.int .u8 (H * 16 + dd)] 5))
            have hsz2 := HBA.out.size
            go_wp2_with (at_builtin; refine wpList_append_own _ rfl _ _ 23 rfl w.heap.size 5 i0 (.int .u8 0) 1 1 Tryd.underlying23 hi hz0 hz1 hz2 rfl (by decide) _ _ _ rfl HA.out ⟨wr.heap.size, 0, none⟩ 1 1 [.int .u8 (H * 16 + dd)] rfl rfl (cell_one_new _ _ _) ?a2 ?a3 ?a4 ?a5 ?_)
            case a2 => first | rfl | (intro u hu; simp at hu; subst hu; rfl)
            case a3 => unfold maxLen; omega
            case a4 => omega
            case a5 => first | omega | exact hsz2
            intro v1 w1 hown' hgrow _
            have HB1 := hid (HBA.out.grown hgrow hsz2 (fun j hj => (HO.out.lt j hj).1))
            have HO1 := hid (show w1.ownsRow w.heap.size 5 1 v1 ((k + 1) / 2) (bys (prN zs ((k + 1) / 2))) by
              rw [HPr.out, bys_append, show (k + 1) / 2 = k / 2 + 1 by omega]
              exact hown')
            clear hown' hgrow HA HBA hsz2 HO HB
            go_wp2_with fail
            go_roundw
            case rel => exact ⟨k + 1, by omega, by go_num, by rw [HHn.out], hid (fun j hj => by by_cases e : j = k; (rw [e]; exact HSm.out); exact HX.out j (by omega)), HO1, HB1⟩
            case measure => simp [intOf]; omega
          · have hm : ¬ (k : Int) % 2 = 1 := by omega
            have hH0' : H = 0 := by rw [← HHf.out]; unfold hfN; rw [if_neg hodd]
            subst hH0'
            have HHn := hid (show hfN zs (k + 1) = dd by unfold hfN; rw [if_pos (by omega), show k + 1 - 1 = k by omega, HDv.out])
            have HO1 := hid (show wr.ownsRow w.heap.size 5 1 _ ((k + 1) / 2) (bys (prN zs ((k + 1) / 2))) by rw [show (k + 1) / 2 = k / 2 by omega]; exact HO.out)
            go_wp2_with fail
            go_roundw
            case rel => exact ⟨k + 1, by omega, by go_num, by rw [HHn.out]; try (first | rfl | simp), hid (fun j hj => by by_cases e : j = k; (rw [e]; exact HSm.out); exact HX.out j (by omega)), HO1, HB⟩
            case measure => simp [intOf]; omega
        · by_cases h3 : 97 ≤ z
          · by_cases h4 : z ≤ 102
            · skip
              have hdv : unD z = some (z - 87) := by unfold unD; rw [if_neg (by omega), if_pos (by omega)]
              have HSm := hid (show (unD (zs.getD k 0)).isSome = true by rw [HZk.out, hdv]; rfl)
              have HDv := hid (show dv (zs.getD k 0) = (z - 87) by rw [HZk.out]; unfold dv; rw [hdv]; rfl)
              clear hdv
              obtain ⟨dd, hdd⟩ : ∃ dd, z - 87 = dd := ⟨_, rfl⟩
              rw [hdd] at HDv
              have hd0 : 0 ≤ dd ∧ dd ≤ 15 := by omega
              have hwd : IntKind.i64.wrap dd = dd := by simp [IntKind.wrap, IntKind.bits, IntKind.signed]; omega
              have hwm : IntKind.i64.wrap (H * 16) = H * 16 := by simp [IntKind.wrap, IntKind.bits, IntKind.signed]; omega
              have hws : IntKind.i64.wrap (H * 16 + dd) = H * 16 + dd := by simp [IntKind.wrap, IntKind.bits, IntKind.signed]; omega
              have hwb : IntKind.u8.wrap (H * 16 + dd) = H * 16 + dd := by simp [IntKind.wrap, IntKind.bits, IntKind.signed]; omega
              by_cases hodd : k % 2 = 1
              · have hm : (k : Int) % 2 = 1 := by omega
                have HPr := hid (show prN zs ((k + 1) / 2) = prN zs (k / 2) ++ [H * 16 + dd] by
                  rw [show (k + 1) / 2 = k / 2 + 1 by omega, prN_succ, show 2 * (k / 2) = k - 1 by omega, show k - 1 + 1 = k by omega, HDv.out, ← HHf.out]
                  unfold hfN
                  rw [if_pos hodd])
                have HHn := hid (show hfN zs (k + 1) = 0 by unfold hfN; rw [if_neg (by omega)])
                have HA := hid (HO.out.alloc (.cells #[.int .u8 (H * 16 + dd)] 5))
                have HBA := hid (HB.out.alloc hsz (.cells #[.int .u8 (H * 16 + dd)] 5))
                have hsz2 := HBA.out.size
                go_wp2_with (at_builtin; refine wpList_append_own _ rfl _ _ 23 rfl w.heap.size 5 i0 (.int .u8 0) 1 1 Tryd.underlying23 hi hz0 hz1 hz2 rfl (by decide) _ _ _ rfl HA.out ⟨wr.heap.size, 0, none⟩ 1 1 [.int .u8 (H * 16 + dd)] rfl rfl (cell_one_new _ _ _) ?a2 ?a3 ?a4 ?a5 ?_)
                case a2 => first | rfl | (intro u hu; simp at hu; subst hu; rfl)
                case a3 => unfold maxLen; omega
                case a4 => omega
                case a5 => first | omega | exact hsz2
                intro v1 w1 hown' hgrow _
                have HB1 := hid (HBA.out.grown hgrow hsz2 (fun j hj => (HO.out.lt j hj).1))
                have HO1 := hid (show w1.ownsRow w.heap.size 5 1 v1 ((k + 1) / 2) (bys (prN zs ((k + 1) / 2))) by
                  rw [HPr.out, bys_append, show (k + 1) / 2 = k / 2 + 1 by omega]
                  exact hown')
                clear hown' hgrow HA HBA hsz2 HO HB
                go_wp2_with fail
                go_roundw
                case rel => exact ⟨k + 1, by omega, by go_num, by rw [HHn.out], hid (fun j hj => by by_cases e : j = k; (rw [e]; exact HSm.out); exact HX.out j (by omega)), HO1, HB1⟩
                case measure => simp [intOf]; omega
              · have hm : ¬ (k : Int) % 2 = 1 := by omega
                have hH0' : H = 0 := by rw [← HHf.out]; unfold hfN; rw [if_neg hodd]
                subst hH0'
                have HHn := hid (show hfN zs (k + 1) = dd by unfold hfN; rw [if_pos (by omega), show k + 1 - 1 = k by omega, HDv.out])
                have HO1 := hid (show wr.ownsRow w.heap.size 5 1 _ ((k + 1) / 2) (bys (prN zs ((k + 1) / 2))) by rw [show (k + 1) / 2 = k / 2 by omega]; exact HO.out)
                go_wp2_with fail
                go_roundw
                case rel => exact ⟨k + 1, by omega, by go_num, by rw [HHn.out]; try (first | rfl | simp), hid (fun j hj => by by_cases e : j = k; (rw [e]; exact HSm.out); exact HX.out j (by omega)), HO1, HB⟩
                case measure => simp [intOf]; omega
            · skip
              have HNo := hid (allX_no HLk.out (by rw [HZk.out]; unfold unD; rw [if_neg (by omega), if_neg (by omega)]))
              go_wp2_with fail
              go_ret2
              refine ⟨.slice none 0 0, by rw [show unH zs = ([], false) by unfold unH; rw [HNo.out]; rfl]; rfl, ?_, HB.out⟩
              rw [show unH zs = ([], false) by unfold unH; rw [HNo.out]; rfl]
              exact World.ownsRow_nil _ _ _ _
          · skip
            have HNo := hid (allX_no HLk.out (by rw [HZk.out]; unfold unD; rw [if_neg (by omega), if_neg (by omega)]))
            go_wp2_with fail
            go_ret2
            refine ⟨.slice none 0 0, by rw [show unH zs = ([], false) by unfold unH; rw [HNo.out]; rfl]; rfl, ?_, HB.out⟩
            rw [show unH zs = ([], false) by unfold unH; rw [HNo.out]; rfl]
            exact World.ownsRow_nil _ _ _ _
      · skip
        have h3 : ¬ 97 ≤ z := by omega
        have HNo := hid (allX_no HLk.out (by rw [HZk.out]; unfold unD; rw [if_neg (by omega), if_neg (by omega)]))
        go_wp2_with fail
        go_ret2
        refine ⟨.slice none 0 0, by rw [show unH zs = ([], false) by unfold unH; rw [HNo.out]; rfl]; rfl, ?_, HB.out⟩
        rw [show unH zs = ([], false) by unfold unH; rw [HNo.out]; rfl]
        exact World.ownsRow_nil _ _ _ _
    · have hlt' : ¬ (k : Int) < (n : Int) := by omega
      obtain rfl : k = n := by omega
      have HAll := hid (allX_yes (zs := zs) (fun j hj => HX.out j (by have := HL.out; omega)))
      have HU := hid (show unH zs = (prN zs (k / 2), decide (k % 2 = 0)) by unfold unH; rw [HAll.out, if_pos rfl, HL.out])
      have hdm : decide (k % 2 = 0) = ((k : Int) % 2 == 0) := by by_cases e : k % 2 = 0; (rw [decide_eq_true e, show (k : Int) % 2 = 0 by omega]; rfl); (rw [decide_eq_false e, show (k : Int) % 2 = 1 by omega]; rfl)
      have HDm := hid hdm
      clear hdm
      go_wp2_with fail
      go_ret2
      refine ⟨_, by rw [HU.out, HDm.out]; rfl, ?_, HB.out⟩
      rw [HU.out]
      have := HO.out
      rw [prN_len]
      exact this
end Go.Proofs.YtoppccfgcccijaaDoor
