/- Texts of this proof in one: Wa14 Wb14 Wc14 Wd14 We14. -/
import Derived.Test.YtjcjoabblafboaaGreatMgj
import Derived.Test.YtjcjoabblafboaaGreatMgc
import Derived.Test.YtjcjoabblafboaaGreatMgg
import Derived.Deep.RegionLaw
import Derived.Test.YtjcjoabblafboaaGreatMgh
/- The least one ahead: contracts of the program's leastAhead and isFirst. Conditions: at most 100 deeds. -/

namespace Go.Proofs.YtjcjoabblafboaaGreat
open Go.RowKit Go.Maps
set_option maxRecDepth 100000
def leastP (R : Eds) (n : Nat) (x r : Int) : Prop := (r = -1 ∧ ∀ j, j < n → x ∉ R j) ∨ ∃ k : Nat, r = (k : Int) ∧ k < n ∧ x ∈ R k ∧ ∀ j, j < k → x ∉ R j
theorem key14 {x : Int} (h0 : 0 ≤ x) (h1 : x ≤ 1000000) : keyOf Tryz.prog 3 (.int .i64 x) = some (.int .i64 x) := by
 refine keyOf_int_mk Tryz.underlying3 ?_
 simp [Lit.wf, IntKind.min, IntKind.max, IntKind.bits, IntKind.signed]
 omega
theorem zeroUnit14 (w : World) : (zeroValue 82).run Tryz.prog w = .ok (.agg #[]) w := by kernel_rfl
set_option maxHeartbeats 3200000 in
theorem impl_least1 {b n : Nat} {Ri : List Int} {x : Int} {B : Nat} {w : World} (h : w.ownsMap Tryz.prog 3 (unitElem (H := Unit)) b n (momS Ri)) (hx : w.cell? ⟨B, 0, none⟩ = some (.int .i64 x)) (h0 : 0 ≤ x) (h1 : x ≤ 1000000) :
 Calls Tryz.prog 141 #[.map (some b), .pointer (some ⟨B, 0, none⟩)] w fun e w' => e = .returned (.bool (decide (x ∈ Ri))) ∧ Below w.heap.size w w' := by
 have hkey := key14 h0 h1
 have HH := hid (has_mom Ri x)
 have HB := hid (Below.refl w.heap.size w)
 go_enter Tryz.func141, Tryz.ntmps141
 go_wp2_with (at_lookup; refine wpList_lookup_own_unit _ rfl _ _ 80 rfl 3 82 law14 Tryz.underlying80 (zeroUnit14 _) b n _ rfl h _ _ rfl hkey ?_)
 go_ret
 rw [HH.out]
 exact ⟨rfl, by first | exact HB.out | exact Below.alloc1 w _ | exact HB.out.alloc (Nat.le_refl _) _⟩
set_option maxHeartbeats 3200000 in
theorem index_edges {base g n : Nat} {M : Nat → Nat} {R : Eds} {w : World} (h : EdM w base g n M R) (hn : n ≤ 100) (x : Int) (B : Nat) (hx : w.cell? ⟨B, 0, none⟩ = some (.int .i64 x)) (h0 : 0 ≤ x) (h1 : x ≤ 1000000) :
 Calls Tryz.prog 140 #[.slice (some ⟨g, 0, none⟩) n n, .func (.func 141) #[] #[.pointer (some ⟨B, 0, none⟩)]] w fun e w' => ∃ r : Int, e = .returned (.int .i64 r) ∧ leastP R n x r ∧ Below w.heap.size w w' := by
 have HE := hid h
 have HX := hid hx
 have HBl := hid (World.block_lt_of_cell? w _ hx)
 clear h hx
 go_enter Tryz.func140, Tryz.ntmps140
 go_wp2_with fail
 go_loopw [8] (fun i wr => ∃ k : Nat, k ≤ n ∧ i = .int .i64 k ∧ Hid (∀ j, j < k → x ∉ R j) ∧ Hid (Below w.heap.size w wr)) (fun i _ => n - (intOf i).toNat)
 case atStart => exact ⟨0, Nat.zero_le _, rfl, hid (fun i hi => by omega), hid (Below.refl _ _)⟩
 case round =>
  obtain ⟨k, hk, rfl, HNo, HW⟩ := hrel
  by_cases hlt : k < n
  · have hlt' : (k : Int) < (n : Int) := by omega
    have hk0 : (0 : Int) ≤ (k : Int) := by omega
    have HEr := hid (HE.out.below HW.out)
    have hcl := HEr.out.cell hlt
    have HNx := hid (fun (e : x ∉ R k) j (hj : j < k + 1) => show x ∉ R j from by
     by_cases hc : j < k
     · exact HNo.out j hc
     · have : j = k := by omega
       subst this; exact e)
    go_wp2_with fail
    clear hcl
    refine (impl_least1 (HEr.out.map k hlt) ((HW.out.cell (p := ⟨B, 0, none⟩) HBl.out).trans HX.out) h0 h1).mono ?_
    rintro e w1 ⟨rfl, b1⟩
    have HW2 := hid (HW.out.trans (b1.mono HW.out.size))
    clear b1 HEr
    by_cases hin : x ∈ R k
    · rw [decide_eq_true hin]
      have HT := hid (show leastP R n x (k : Int) from .inr ⟨k, rfl, hlt, hin, HNo.out⟩)
      clear hin
      go_wp2_with fail
      go_ret
      exact ⟨_, rfl, HT.out, HW2.out⟩
    · rw [decide_eq_false hin]
      have HN2 := hid (HNx.out hin)
      clear hin
      go_wp2_with fail
      go_roundw
      case rel => exact ⟨k + 1, by omega, by go_num, HN2, HW2⟩
      case measure => simp [intOf]; omega
  · have hlt' : ¬ (k : Int) < (n : Int) := by omega
    have HE2 := hid (show leastP R n x (-1) from .inl ⟨rfl, fun j hj => HNo.out j (by omega)⟩)
    go_wp2_with fail
    go_ret
    exact ⟨_, rfl, HE2.out, HW.out⟩
set_option maxHeartbeats 3200000 in
theorem impl_leastAhead {base g n : Nat} {M : Nat → Nat} {R : Eds} {w : World} (h : EdM w base g n M R) (hn : n ≤ 100) (x : Int) (h0 : 0 ≤ x) (h1 : x ≤ 1000000) :
 Calls Tryz.prog 100 #[.slice (some ⟨g, 0, none⟩) n n, .int .i64 x] w fun e w' => ∃ r : Int, e = .returned (.int .i64 r) ∧ leastP R n x r ∧ Below w.heap.size w w' := by
 have HB := hid (Below.alloc1 w (.cells #[.int .i64 x] 3))
 have HE := hid (h.below HB.out)
 have HX := hid (show (w.alloc (.cells #[.int .i64 x] 3)).cell? ⟨w.heap.size, 0, none⟩ = some (.int .i64 x) by rw [cell_of_row _ _ _ _ _ _ (heap_alloc_new w _)]; rfl)
 clear h
 go_enter Tryz.func100, Tryz.ntmps100
 go_wp2_with fail
 refine (index_edges HE.out hn x w.heap.size HX.out h0 h1).mono ?_
 rintro e w1 ⟨r, rfl, hr, b1⟩
 have HB2 := hid (HB.out.trans (b1.mono HB.out.size))
 have HR := hid hr
 clear b1 hr
 go_wp2_with fail
 go_ret
 exact ⟨_, rfl, HR.out, HB2.out⟩
open Classical in
noncomputable def firstB (R : Eds) (n : Nat) (x : Int) : Bool := decide (∀ j, j < n → x ∉ R j)
theorem firstB_least {R : Eds} {n : Nat} {x r : Int} (h : leastP R n x r) : firstB R n x = (r == -1) := by
 unfold firstB
 rcases h with ⟨rfl, h⟩ | ⟨k, rfl, hk, hm, _⟩
 · rw [decide_eq_true h]; rfl
 · rw [decide_eq_false (fun z => z k hk hm)]
   have : ¬ (k : Int) = -1 := by omega
   simp [this]
set_option maxHeartbeats 3200000 in
theorem impl_isFirst {base g n : Nat} {M : Nat → Nat} {R : Eds} {w : World} (h : EdM w base g n M R) (hn : n ≤ 100) (x : Int) (h0 : 0 ≤ x) (h1 : x ≤ 1000000) :
 Calls Tryz.prog 97 #[.slice (some ⟨g, 0, none⟩) n n, .int .i64 x] w fun e w' => e = .returned (.bool (firstB R n x)) ∧ Below w.heap.size w w' := by
 go_enter Tryz.func97, Tryz.ntmps97
 go_wp2_with fail
 refine (impl_leastAhead h hn x h0 h1).mono ?_
 rintro e w1 ⟨r, rfl, hr, b1⟩
 have HB := hid b1
 have HF := hid (firstB_least hr)
 clear b1 hr
 obtain ⟨q, hq⟩ : ∃ q, (r == -1) = q := ⟨_, rfl⟩
 rw [hq] at HF
 go_wp2_with fail
 go_ret
 exact ⟨by rw [HF.out]; first | rfl | (rw [← hq]; rfl), HB.out⟩
end Go.Proofs.YtjcjoabblafboaaGreat
/- clear of a map of the call's own; the first of a row of numbers that stands behind nobody. Conditions: at most 100 deeds. -/

namespace Go.Proofs.YtjcjoabblafboaaGreat
open Go.RowKit Go.Maps Go.ChangeMaps Go.MapKept
set_option maxRecDepth 100000
theorem clear_ownA {w : World} {b n : Nat} {D : DataW Unit} {k t e : TypeId} {Re : Value → Option (DataW Unit × List MemPlace)} (h : w.ownsMap Tryz.prog k Re b n D) (ht : Tryz.prog.underlying t = some (.map k e)) :
 ∃ w', (∀ ty, (Builtin.clear_ #[t] ty #[.map (some b)]).run Tryz.prog w = .ok (.tuple #[]) w') ∧ w'.ownsMap Tryz.prog k Re b 0 (.map []) ∧ w.mapTurned w' b := by
 obtain ⟨es, clock, hb, F, hs, hD⟩ := h
 refine ⟨ChangeMaps.setBlock w b (.map #[] clock), fun ty => ?_, ⟨#[], clock, heap_setBlock_same hb _, ⟨by simp, stamped_empty clock, by simp⟩, Nat.le_refl _, rfl⟩, ⟨es, clock, #[], clock, hb, rfl⟩⟩
 simp [Builtin.clear_, run_underlying ht, MapKept.run_getObj_map hb, MapKept.run_setObj_map _ hb, Result.andThen, ChangeMaps.setBlock]
def freeP (R : Eds) (n : Nat) (L : List Int) (r : Int) : Prop := (r = -1 ∧ ∀ j, j < L.length → firstB R n (L.getD j 0) = false) ∨ ∃ k : Nat, r = (k : Int) ∧ k < L.length ∧ firstB R n (L.getD k 0) = true ∧ ∀ j, j < k → firstB R n (L.getD j 0) = false
set_option maxHeartbeats 3200000 in
theorem index_first {base g n : Nat} {M : Nat → Nat} {R : Eds} {a : Option Addr} {m : Nat} (c : Nat) {L : List Int} {w : World} (h : EdM w base g n M R) (hn : n ≤ 100) (hL : ReadsI w a m L) (hl : L.length = m) (hm : m ≤ 2097152) (hb : ∀ j, j < m → 0 ≤ L.getD j 0 ∧ L.getD j 0 ≤ 1000000) :
 Calls Tryz.prog 96 #[.slice a m c, .func (.func 97) #[.slice (some ⟨g, 0, none⟩) n n] #[]] w fun e w' => ∃ r : Int, e = .returned (.int .i64 r) ∧ freeP R n L r ∧ Below w.heap.size w w' := by
 have HE := hid h
 have HL := hid hL
 have HBd := hid hb
 have HLl := hid hl
 clear h hL hb hl
 go_enter Tryz.func96, Tryz.ntmps96
 go_wp2_with fail
 go_loopw [8] (fun i wr => ∃ k : Nat, k ≤ m ∧ i = .int .i64 k ∧ Hid (∀ j, j < k → firstB R n (L.getD j 0) = false) ∧ Hid (Below w.heap.size w wr)) (fun i _ => m - (intOf i).toNat)
 case atStart => exact ⟨0, Nat.zero_le _, rfl, hid (fun i hi => by omega), hid (Below.refl _ _)⟩
 case round =>
  obtain ⟨k, hk, rfl, HNo, HW⟩ := hrel
  by_cases hlt : k < m
  · have hlt' : (k : Int) < (m : Int) := by omega
    have hk0 : (0 : Int) ≤ (k : Int) := by omega
    obtain ⟨bo, oo, rfl, hc⟩ := readsI_at (HL.out.below HW.out (Nat.le_refl _)) hlt
    have hbd := HBd.out k hlt
    have HNx := hid (fun (e : firstB R n (L.getD k 0) = false) j (hj : j < k + 1) => show firstB R n (L.getD j 0) = false from by
     by_cases hc : j < k
     · exact HNo.out j hc
     · have : j = k := by omega
       subst this; exact e)
    have HYe := hid (fun (e : firstB R n (L.getD k 0) = true) => show freeP R n L (k : Int) from .inr ⟨k, rfl, by have := HLl.out; omega, e, HNo.out⟩)
    obtain ⟨x, hx⟩ : ∃ x, L.getD k 0 = x := ⟨_, rfl⟩
    rw [hx] at hc hbd HNx HYe
    clear hx
    go_wp2_with fail
    clear hc
    refine (impl_isFirst (HE.out.below HW.out) hn x hbd.1 hbd.2).mono ?_
    rintro e w1 ⟨rfl, b1⟩
    have HW2 := hid (HW.out.trans (b1.mono HW.out.size))
    clear b1
    cases hin : firstB R n x with
    | true =>
     have HT := hid (HYe.out hin)
     clear hin
     go_wp2_with fail
     go_ret
     exact ⟨_, rfl, HT.out, HW2.out⟩
    | false =>
     have HN2 := hid (HNx.out hin)
     clear hin
     go_wp2_with fail
     go_roundw
     case rel => exact ⟨k + 1, by omega, by go_num, HN2, HW2⟩
     case measure => simp [intOf]; omega
  · have hlt' : ¬ (k : Int) < (m : Int) := by omega
    have HE2 := hid (show freeP R n L (-1) from .inl ⟨rfl, fun j hj => HNo.out j (by have := HLl.out; omega)⟩)
    go_wp2_with fail
    go_ret
    exact ⟨_, rfl, HE2.out, HW.out⟩
end Go.Proofs.YtjcjoabblafboaaGreat
/- The library's Delete of one number out of a row of the call's own. Conditions: at most 2^21 numbers. -/



namespace Go.Proofs.YtjcjoabblafboaaGreat
open Go.RowKit
set_option maxRecDepth 100000
theorem insU14 (zs : List Int) : ∀ u ∈ ins zs, u.oneCell' = true := by
 intro u hu
 unfold ins at hu
 obtain ⟨z, _, rfl⟩ := List.mem_map.1 hu
 rfl
theorem zeroInt14 (w : World) : (zeroValue 3).run Tryz.prog w = .ok (.int .i64 0) w := by kernel_rfl
set_option maxHeartbeats 6400000 in
theorem delete_int {g c lo : Nat} {ps : List Int} {w : World} (k r : Nat) (hps : ps.length = k + 1 + r) (ho : w.ownsRow lo 3 1 (.slice (some ⟨g, 0, none⟩) (k + 1 + r) c) (k + 1 + r) (ins ps)) (hn : k + 1 + r ≤ 2097152) :
 Calls Tryz.prog 98 #[.slice (some ⟨g, 0, none⟩) (k + 1 + r) c, .int .i64 k, .int .i64 ((k : Int) + 1)] w fun e w' => e = .returned (.slice (some ⟨g, 0, none⟩) (k + r) c) ∧ w'.ownsRow lo 3 1 (.slice (some ⟨g, 0, none⟩) (k + r) c) (k + r) (ins (ps.take k ++ ps.drop (k + 1))) ∧ Keeps (fun b => b = g) w w' := by
 obtain ⟨i0, hi, hz0, hz1, hz2⟩ := infoI14
 have h1c := insU14 ps
 obtain ⟨rest, hG, hr, hnc, hcm, hlo⟩ := owns_blk ho
 unfold maxLen at hcm
 have e1 : ins ps = ins (ps.take k) ++ (ins ((ps.drop k).take 1) ++ ins (ps.drop (k + 1))) := by
  rw [← ins_append, ← ins_append]
  congr 1
  rw [show ps.drop (k + 1) = (ps.drop k).drop 1 by rw [List.drop_drop], List.take_append_drop, List.take_append_drop]
 have l1 : (ins (ps.take k)).length = k := by unfold ins; rw [List.length_map, List.length_take]; omega
 have l2 : (ins ((ps.drop k).take 1)).length = 1 := by unfold ins; rw [List.length_map, List.length_take, List.length_drop]; omega
 have l3 : (ins (ps.drop (k + 1))).length = r := by unfold ins; rw [List.length_map, List.length_drop]; omega
 obtain ⟨A, hA⟩ : ∃ A, ins (ps.take k) = A := ⟨_, rfl⟩
 obtain ⟨M, hM⟩ : ∃ M, ins ((ps.drop k).take 1) = M := ⟨_, rfl⟩
 obtain ⟨D, hD⟩ : ∃ D, ins (ps.drop (k + 1)) = D := ⟨_, rfl⟩
 have HF := hid (show ins (ps.take k ++ ps.drop (k + 1)) = A ++ D by rw [ins_append, hA, hD])
 rw [hA, hM, hD] at e1
 rw [hA] at l1
 rw [hM] at l2
 rw [hD] at l3
 rw [e1] at hG hr h1c
 clear hA hM hD e1 ho
 have hDc : ∀ u ∈ D, u.oneCell' = true := fun u hu => h1c u (by simp [hu])
 have hG' : w.drew.heap[g]? = some (.cells (A ++ (M ++ D) ++ rest).toArray 3) := hG
 have hsrc : ∀ j u, D[j]? = some u → w.drew.cell? ⟨g, (k + 1) + j, none⟩ = some u := fun j u hu => by
  rw [block14 hG', List.append_assoc, List.getElem?_append_right (by omega), List.append_assoc, List.getElem?_append_right (by omega), l1, l2, List.getElem?_append_left (by have := (List.getElem?_eq_some_iff.1 hu).1; omega), ← hu]
  congr 1; omega
 have hlen : (A ++ (M ++ D) ++ rest).length = c := by rw [hr]; omega
 have hth : w.drew.there g k r := there14 hG' (by rw [hlen]; omega)
 have hG1 := heapL14 g 3 D k w.drew _ (by rw [hlen, l3]; omega) hG'
 have eq1 : (A ++ (M ++ D) ++ rest).take k = A := by rw [List.append_assoc, ← l1, List.take_left]
 rw [eq1] at hG1
 obtain ⟨R, hR⟩ : ∃ R, (A ++ (M ++ D) ++ rest).drop (k + D.length) = R := ⟨_, rfl⟩
 have lR : R.length = c - (k + r) := by rw [← hR, List.length_drop, hlen, l3]
 rw [hR] at hG1
 obtain ⟨W1, hW1⟩ : ∃ W1, w.drew.setCells g k D = W1 := ⟨_, rfl⟩
 have hth2 : W1.there g (k + r) 1 := by
  rw [← hW1]
  exact there14 hG1 (by rw [List.length_append, List.length_append, l1, l3, lR]; omega)
 have K1 : Keeps (fun b => b = g) w W1 := by
  rw [← hW1]
  exact (Keeps.of_below ((Below.refl _ w).drew)).trans (Keeps.cells14 g D k w.drew)
 obtain ⟨Z, hZ⟩ : ∃ Z, (Builtin.zeroCells (Value.int .i64 0).cells 1).toList = Z := ⟨_, rfl⟩
 have lZ : Z.length = 1 := by rw [← hZ]; simp [Builtin.zeroCells, Value.cells]
 have hZ1 : ∀ v ∈ Z, v.oneCell' = true := by
  rw [← hZ]
  intro v hv
  have : v = .int .i64 0 := by simpa [Builtin.zeroCells, Value.cells] using hv
  rw [this]; rfl
 rw [hW1] at hG1
 have hG2 := heapL14 g 3 Z (k + r) W1 _ (by rw [lZ, List.length_append, List.length_append, l1, l3, lR]; omega) hG1
 have eq2 : (A ++ D ++ R).take (k + r) = A ++ D := by rw [show k + r = (A ++ D).length by rw [List.length_append, l1, l3], List.take_left]
 rw [eq2, List.append_assoc] at hG2
 have HO2 := hid (blk_owns (w := W1.setCells g (k + r) Z) (lo := lo) (n := k + r) (c := c) (s := 1) hG2 (by rw [List.length_append, l1, l3]; omega) (by rw [List.length_append, List.length_append, List.length_append, List.length_drop, List.length_append, List.length_append, l1, l3, lZ, lR]; omega) (by omega) (by unfold maxLen; omega) hlo)
 have HK2 := hid (K1.trans (Keeps.cells14 g Z (k + r) W1))
 have HT2 := hid hth2
 have HZ1 := hid (And.intro hZ (And.intro hZ1 lZ))
 have HT1 := hid hth
 have HSr := hid hsrc
 have HDc := hid hDc
 have HL := hid (And.intro l1 l3)
 have HW1 := hid hW1
 clear hZ hZ1 lZ hth hth2 hsrc hDc hG hG' hG1 hG2 hr h1c hlen eq1 eq2 hR lR K1 hW1 l1 l2 l3
 have q1 : (0 : Int) ≤ (k : Int) := by omega
 have q3 : ¬ (k : Int) = (k : Int) + 1 := by omega
 have hkc : k ≤ c := by omega
 have hk1 : k + 1 ≤ k + 1 + r := by omega
 have hk2 : k + 1 + r - (k + 1) = r := by omega
 have hk3 : k + 1 ≤ c := by omega
 have hk4 : (0 : Int) ≤ (k : Int) + 1 := by omega
 have hk5 : (k : Int) + 1 ≤ (k : Int) + 1 + (r : Int) := by omega
 have hk6 : k + 1 + r - (k + r) = 1 := by omega
 have hk7 : ¬ c = k + r := by omega
 have hk8 : (0 : Int) ≤ (k : Int) + (r : Int) := by omega
 have hk9 : (k : Int) + (r : Int) ≤ (k : Int) + 1 + (r : Int) := by omega
 have hk10 : k + r ≤ k + 1 + r := by omega
 have hk11 : (k : Int) + 1 + (r : Int) ≤ (c : Int) := by omega
 obtain ⟨B5, hB5, HB5⟩ : ∃ B5 : Addr, (if c = k + 1 then (some ⟨g, 0, none⟩ : Option Addr) else some ⟨g, k + 1, none⟩) = some B5 ∧ Hid (∀ j u, D[j]? = some u → w.drew.cell? (B5.add j) = some u) := by
  by_cases hc : c = k + 1
  · have : D = [] := List.length_eq_zero_iff.1 (by have := HL.out.2; omega)
    exact ⟨_, by rw [if_pos hc], hid (fun j u hu => by rw [this] at hu; simp at hu)⟩
  · exact ⟨_, by rw [if_neg hc], hid (fun j u hu => by rw [show (⟨g, k + 1, none⟩ : Addr).add j = ⟨g, k + 1 + j, none⟩ by simp [Addr.add]]; exact HSr.out j u hu)⟩
 go_enter Tryz.func98, Tryz.ntmps98
 go_wp2
 refine region_K 99 (fun _ => True) (by kernel_rfl) ?_ (fun hHeld => ?_)
 · trivial
 refine anyK_take2 (i := 0) (v := ?v0_1) rfl (by kernel_rfl) (by kernel_rfl) (by kernel_rfl) (by rfl) (fun _ _ _ h => h) (by rfl) hHeld ?hy0_1 (some 20) (by rfl) ?rest0_1
 case hy0_1 => (intro W hSw; obtain _ := hSw; go_simp; (try with_reducible rfl))
 try simp only [Act.put, List.setIfInBounds_toArray, List.set_cons_succ, List.set_cons_zero]
 refine anyK_take2 (i := 1) (v := ?v1_2) rfl (by kernel_rfl) (by kernel_rfl) (by kernel_rfl) (by rfl) (fun _ _ _ h => h) (by rfl) hHeld ?hy1_2 (some 21) (by rfl) ?rest1_2
 case hy1_2 => (intro W hSw; obtain _ := hSw; go_simp; (try with_reducible rfl))
 try simp only [Act.put, List.setIfInBounds_toArray, List.set_cons_succ, List.set_cons_zero]
 refine anyK_take2 (i := 2) (v := ?v2_3) rfl (by kernel_rfl) (by kernel_rfl) (by kernel_rfl) (by rfl) (fun _ _ _ h => h) (by rfl) hHeld ?hy2_3 (some 22) (by rfl) ?rest2_3
 case hy2_3 => (intro W hSw; obtain _ := hSw; go_simp; (try with_reducible rfl))
 try simp only [Act.put, List.setIfInBounds_toArray, List.set_cons_succ, List.set_cons_zero]
 refine anyK_take2 (i := 3) (v := ?v3_4) rfl (by kernel_rfl) (by kernel_rfl) (by kernel_rfl) (by rfl) (fun _ _ _ h => h) (by rfl) hHeld ?hy3_4 (some 23) (by rfl) ?rest3_4
 case hy3_4 => (intro W hSw; obtain _ := hSw; go_simp; (try with_reducible rfl))
 try simp only [Act.put, List.setIfInBounds_toArray, List.set_cons_succ, List.set_cons_zero]
 refine anyK_take2 (i := 4) (v := ?v4_5) rfl (by kernel_rfl) (by kernel_rfl) (by kernel_rfl) (by rfl) (fun _ _ _ h => h) (by rfl) hHeld ?hy4_5 (some 24) (by rfl) ?rest4_5
 case hy4_5 => (intro W hSw; obtain _ := hSw; go_simp; (try with_reducible rfl))
 try simp only [Act.put, List.setIfInBounds_toArray, List.set_cons_succ, List.set_cons_zero]
 refine anyK_take2 (i := 5) (v := ?v5_6) rfl (by kernel_rfl) (by kernel_rfl) (by kernel_rfl) (by rfl) (fun _ _ _ h => h) (by rfl) hHeld ?hy5_6 (some 25) (by rfl) ?rest5_6
 case hy5_6 => (intro W hSw; obtain _ := hSw; go_simp; (try with_reducible rfl))
 try simp only [Act.put, List.setIfInBounds_toArray, List.set_cons_succ, List.set_cons_zero]
 refine anyK_step (i := 6) (by kernel_rfl) rfl (fun KP hK => ?_)
 refine step_append_room rfl (.tmp 22) (.tmp 25) 29 rfl 3 i0 1 Tryz.underlying29 hi hz1 g 0 k c rfl B5 r (c - (k + 1)) D rfl (by rw [HL.out.2]; omega) HB5.out HDc.out (by omega) (fun j hj => ?_) ?_
 · simp only [Nat.zero_add, Nat.mul_one]
   exact HT1.out j (by have := HL.out.2; omega)
 simp only [Nat.zero_add, Nat.mul_one]
 rw [HW1.out]
 clear hHeld
 refine hK.out _ _ trivial (fun hHeld => ?_)
 clear hK KP
 try simp only [List.setIfInBounds_toArray]
 refine anyK_take2 (i := 7) (v := ?v7_7) rfl (by kernel_rfl) (by kernel_rfl) (by kernel_rfl) (by rfl) (fun _ _ _ h => h) (by rfl) hHeld ?hy7_7 (some 0) (by rfl) ?rest7_7
 case hy7_7 => (intro W hSw; obtain _ := hSw; go_simp; (try with_reducible rfl))
 try simp only [Act.put, List.setIfInBounds_toArray]
 try simp only [List.setIfInBounds_toArray]
 try simp only [List.set_cons_succ, List.set_cons_zero]
 refine anyK_done (by kernel_rfl) ?_ _
 clear hHeld
 have hcl := fun ty => run_clear14 (P := Tryz.prog) W1 29 3 ty (.int .i64 0) Tryz.underlying29 zeroInt14 g (k + r) 1 (c - (k + r)) (by omega) Z HZ1.out.1 HZ1.out.2.1 (by rw [HZ1.out.2.2]; exact HT2.out)
 go_wp2_with fail
 go_ret
 exact ⟨rfl, by rw [HF.out]; exact HO2.out, HK2.out⟩
end Go.Proofs.YtjcjoabblafboaaGreat
/- Taking, plain, and the contract of the program's takeAll. Conditions: at most 100 deeds. -/




namespace Go.Proofs.YtjcjoabblafboaaGreat
open Go.RowKit Go.Maps
set_option maxRecDepth 100000
noncomputable def tkF (n : Nat) : Nat → Eds → List Nat → List Nat → List Nat × List Nat × Eds
 | 0, R, T, L => (T, L, R)
 | f + 1, R, T, L => match L.findIdx? (fun x => firstB R n ((x : Nat) : Int)) with
  | none => (T, L, R)
  | some k => tkF n f (upd R (L.getD k 0) []) (T ++ [L.getD k 0]) (L.take k ++ L.drop (k + 1))
theorem nI_get {L : List Nat} {j : Nat} (h : j < L.length) : (nI L).getD j 0 = ((L[j] : Nat) : Int) := by simp [nI, List.getD, h]
theorem tkF_none {n : Nat} {R : Eds} {T L : List Nat} (h : ∀ j, j < L.length → firstB R n ((nI L).getD j 0) = false) : ∀ f, tkF n f R T L = (T, L, R)
 | 0 => rfl
 | f + 1 => by
  have e : L.findIdx? (fun x => firstB R n ((x : Nat) : Int)) = none := by
   rw [List.findIdx?_eq_none_iff]
   intro x hx
   obtain ⟨j, hj, rfl⟩ := List.getElem_of_mem hx
   have := h j hj
   rw [nI_get hj] at this
   simp [this]
  unfold tkF
  rw [e]
theorem tkF_some {n : Nat} {R : Eds} {T L : List Nat} {k : Nat} (hk : k < L.length) (h1 : firstB R n ((nI L).getD k 0) = true) (h : ∀ j, j < k → firstB R n ((nI L).getD j 0) = false) (f : Nat) : tkF n (f + 1) R T L = tkF n f (upd R (L.getD k 0) []) (T ++ [L.getD k 0]) (L.take k ++ L.drop (k + 1)) := by
 have e : L.findIdx? (fun x => firstB R n ((x : Nat) : Int)) = some k := by
  rw [List.findIdx?_eq_some_iff_getElem]
  refine ⟨hk, by rw [← nI_get hk]; exact h1, fun j hj => ?_⟩
  have := h j hj
  rw [nI_get (by omega)] at this
  simp [this]
 rw [tkF, e]
section
variable {w w' : World} {base g n : Nat} {M : Nat → Nat} {R : Eds}
theorem EdM.clear (h : EdM w base g n M R) {i : Nat} (hi : i < n) (o : w'.ownsMap Tryz.prog 3 (unitElem (H := Unit)) (M i) 0 (.map [])) (gr : w.grownBy w' (some (M i))) : EdM w' base g n M (upd R i []) := by
 refine ⟨owns_ck h.row (h.ck hi gr), fun j hj => ?_, h.low, h.inj⟩
 by_cases e : j = i
 · subst e
   rw [upd_same]
   exact o
 · rw [upd_other _ _ e]
   exact (h.map j hj).kept gr (fun q => h.inj j i hj hi e (Option.some.inj q))
theorem EdM.kept (h : EdM w base g n M R) {row : Option Nat} (gr : w.grownBy w' row) (hg : row ≠ some g) (hM : ∀ i, i < n → row ≠ some (M i)) : EdM w' base g n M R :=
 ⟨h.row.kept gr (.inr (fun e => hg e.symm)), fun i hi => (h.map i hi).kept gr (fun e => hM i hi e.symm), h.low, h.inj⟩
end
theorem keeps_grown {w w' : World} {g : Nat} (h : Keeps (fun b => b = g) w w') : w.grownBy w' (some g) := ⟨h.os, h.tape, h.output, h.size, fun i hi hne => h.block i hi (fun e => hne (by rw [e]))⟩
def lenV : Value → Nat
 | .slice _ n _ => n
 | _ => 0
end Go.Proofs.YtjcjoabblafboaaGreat
/- The contract of the program's takeAll. Conditions: at most 100 deeds. -/

namespace Go.Proofs.YtjcjoabblafboaaGreat
open Go.RowKit Go.Maps
set_option maxRecDepth 100000
theorem nI_snoc (P : List Nat) (x : Nat) : ins (nI (P ++ [x])) = ins (nI P) ++ [.int .i64 (x : Int)] := by simp [nI, ins]
theorem nI_cut (L : List Nat) (k : Nat) : nI (L.take k ++ L.drop (k + 1)) = (nI L).take k ++ (nI L).drop (k + 1) := by simp [nI, List.map_take, List.map_drop]
theorem nI_bd14 {L : List Nat} {n : Nat} (h : ∀ x ∈ L, x < n) (hn : n ≤ 100) (j : Nat) : 0 ≤ (nI L).getD j 0 ∧ (nI L).getD j 0 ≤ 1000000 := by
 by_cases hj : j < L.length
 · rw [nI_get hj]
   have := h L[j] (List.getElem_mem hj)
   omega
 · have : (nI L).getD j 0 = 0 := by simp [nI, List.getD, hj]
   omega
set_option maxHeartbeats 12800000 in
theorem impl_takeAll {base g n : Nat} {M : Nat → Nat} {R : Eds} {w : World} (h : EdM w base g n M R) (hn : n ≤ 100) (hbs : base ≤ w.heap.size) :
 Calls Tryz.prog 44 #[.slice (some ⟨g, 0, none⟩) n n] w fun e w' => ∃ (a : Option Addr) (c : Nat) (a' : Option Addr) (c' : Nat) (T L : List Nat) (R' : Eds), tkF n n R [] (List.range n) = (T, L, R') ∧ e = .returned (.tuple #[.slice a T.length c, .slice a' L.length c']) ∧ w'.ownsRow w.heap.size 3 1 (.slice a T.length c) T.length (ins (nI T)) ∧ w'.ownsRow w.heap.size 3 1 (.slice a' L.length c') L.length (ins (nI L)) ∧ EdM w' base g n M R' ∧ Below base w w' := by
 have HE := hid h
 have HBs := hid hbs
 have HGl := hid (h.row.lt g rfl).2
 have HMl := hid (fun i (hi : i < n) => show M i < w.heap.size by
  obtain ⟨es, cl, hb⟩ := h.isMap hi
  exact (Array.getElem?_eq_some_iff.1 hb).1)
 obtain ⟨i0, hinf, hz0, hz1, hz2⟩ := infoI14
 obtain ⟨B0, hB0⟩ : ∃ B0, w.heap.size = B0 := ⟨_, rfl⟩
 have HB0 := hid hB0
 rw [hB0] at HGl HMl HBs
 rw [hB0]
 clear h hbs
 go_enter Tryz.func44, Tryz.ntmps44
 go_wp2_with fail
 go_loopw [5, 10] (fun s5 s10 wr => ∃ (i : Nat) (a : Option Addr) (c : Nat), i ≤ n ∧ s10 = .int .i64 i ∧ s5 = .slice a i c ∧ Hid (wr.ownsRow B0 3 1 (.slice a i c) i (ins (nI (List.range i)))) ∧ Hid (Below B0 w wr)) (fun _ s _ => n - (intOf s).toNat)
 case atStart => exact ⟨0, none, 0, Nat.zero_le _, rfl, rfl, hid (World.ownsRow_nil _ _ _ _), hid (Below.refl _ _)⟩
 case round =>
  obtain ⟨i, a, c, hi, rfl, rfl, HO, HW⟩ := hrel
  by_cases hlt : i < n
  · have hlt' : (i : Int) < (n : Int) := by omega
    have hi0 : (0 : Int) ≤ (i : Int) := by omega
    have hsz : B0 ≤ wr.heap.size := by rw [← hB0]; exact HW.out.size
    have bA := Below.alloc1 wr (.cells #[.int .i64 (i : Int)] 3)
    have HA1 := hid (heap_alloc_new wr (.cells #[.int .i64 (i : Int)] 3))
    have OA := hid (owns_below bA (Nat.le_refl _) HO.out)
    have BA := hid (HW.out.trans (bA.mono hsz))
    have ZA := hid (show B0 ≤ (wr.alloc (.cells #[.int .i64 (i : Int)] 3)).heap.size from Nat.le_trans hsz bA.size)
    clear bA hsz HO HW
    go_wp2_with (at_builtin; refine wpList_append_row rfl _ _ 29 rfl B0 3 i0 (.int .i64 0) 1 8 Tryz.underlying29 hinf hz0 hz1 hz2 rfl (by decide) _ i _ rfl OA.out (some ⟨wr.heap.size, 0, none⟩) 1 1 [.int .i64 (i : Int)] rfl rfl (.inr ⟨_, rfl, World.news_of_block HA1.out⟩) (fun e => by cases e) ?q1 ?q2 ?q3 ?q4 ?_)
    case q1 => simp [Value.oneCell']
    case q2 => unfold maxLen; omega
    case q3 => omega
    case q4 => exact ZA.out
    intro a5 c5 w5 o5 hg5
    have O5 := hid (show w5.ownsRow B0 3 1 (.slice a5 (i + 1) c5) (i + 1) (ins (nI (List.range (i + 1)))) by rw [List.range_succ, nI_snoc]; exact o5)
    have B5 := hid (BA.out.grown hg5 ZA.out (fun r e => (OA.out.lt r e).1))
    clear o5 hg5
    go_wp2_with fail
    go_roundw
    case rel => exact ⟨i + 1, a5, c5, by omega, by go_num, rfl, O5, B5⟩
    case measure => simp [intOf]; omega
  · have hlt' : ¬ (i : Int) < (n : Int) := by omega
    obtain rfl : i = n := by omega
    have HE1 := hid (HE.out.below (by rw [hB0]; exact HW.out))
    have HW1 := hid (HW.out.mono HBs.out)
    have HZ1 := hid (show B0 ≤ wr.heap.size by rw [← hB0]; exact HW.out.size)
    clear hlt hi
    go_wp2_with fail
    clear hlt'
    go_loopw [4, 5] (fun s4 s5 wq => ∃ (T L : List Nat) (R' : Eds) (a : Option Addr) (c : Nat) (a' : Option Addr) (c' m : Nat), s4 = .slice a T.length c ∧ s5 = .slice a' m c' ∧ Hid (L.length = m) ∧ Hid (tkF i i R [] (List.range i) = tkF i m R' T L) ∧ Hid (T.length + m = i) ∧ Hid (∀ x ∈ L, x < i) ∧ Hid (wq.ownsRow B0 3 1 (.slice a T.length c) T.length (ins (nI T))) ∧ Hid (wq.ownsRow B0 3 1 (.slice a' m c') m (ins (nI L))) ∧ Hid (∀ b, (Value.slice a T.length c).ownBlock = some b → (Value.slice a' m c').ownBlock ≠ some b) ∧ Hid (EdM wq base g i M R') ∧ Hid (Below base w wq) ∧ Hid (B0 ≤ wq.heap.size)) (fun _ s _ => lenV s)
    case atStart => exact ⟨[], List.range i, R, none, 0, a, c, i, rfl, rfl, hid (by simp), hid rfl, hid (by simp), hid (fun x hx => List.mem_range.1 hx), hid (World.ownsRow_nil _ _ _ _), HO, hid (fun b hb => by cases hb), HE1, HW1, HZ1⟩
    case round =>
     clear HO HW HE1 HW1 HZ1 HE
     obtain ⟨T, L, R', a, c, a', c', m, rfl, rfl, HLm, HTk, HSm, HLt, HOT, HOL, HAp, HE, HW, HZ⟩ := hrel
     have hsm := HSm.out
     have HLl := hid (show (nI L).length = m by rw [nI_len, HLm.out])
     go_wp2_with fail
     refine (index_first c' HE.out hn (own_readsI HOL.out (fun j => by have := nI_bd14 HLt.out hn j; omega)) HLl.out (by omega) (fun j _ => nI_bd14 HLt.out hn j)).mono ?_
     rintro e w1 ⟨r, rfl, hf, b1⟩
     have E1 := hid (HE.out.below b1)
     have T1 := hid (owns_below b1 (Nat.le_refl _) HOT.out)
     have L1 := hid (owns_below b1 (Nat.le_refl _) HOL.out)
     have W1 := hid (HW.out.trans (b1.mono (Nat.le_trans HBs.out HZ.out)))
     have Z1 := hid (Nat.le_trans HZ.out b1.size)
     clear b1 HE HOT HOL HW HZ
     rcases hf with ⟨rfl, hf⟩ | ⟨k, rfl, hk, hf1, hf2⟩
     · have HEnd := hid (show tkF i i R [] (List.range i) = (T, L, R') by rw [HTk.out]; exact tkF_none (fun j hj => hf j (by have := HLl.out; have := HLm.out; omega)) m)
       clear hf
       have HLm2 := HLm.out
       subst HLm2
       go_wp2_with fail
       go_ret2
       exact ⟨a, c, a', c', T, L, R', HEnd.out, rfl, T1.out, L1.out, E1.out, W1.out⟩
     · have hkm : k < m := by have := HLl.out; omega
       obtain ⟨q, hq⟩ : ∃ q, m = k + 1 + q := ⟨m - (k + 1), by omega⟩
       have HStep := hid (show tkF i (k + q + 1) R' T L = tkF i (k + q) (upd R' (L.getD k 0) []) (T ++ [L.getD k 0]) (L.take k ++ L.drop (k + 1)) from tkF_some (by have := HLm.out; omega) hf1 hf2 (k + q))
       have hxi : L.getD k 0 < i := by
        have hkl : k < L.length := by have := HLm.out; omega
        rw [show L.getD k 0 = L[k] by simp [List.getD, hkl]]
        exact HLt.out _ (List.getElem_mem hkl)
       have hxe : (nI L).getD k 0 = ((L.getD k 0 : Nat) : Int) := nI_at (by have := HLm.out; omega)
       have HTk2 := hid (show tkF i i R [] (List.range i) = tkF i (k + q) (upd R' (L.getD k 0) []) (T ++ [L.getD k 0]) (L.take k ++ L.drop (k + 1)) by rw [HTk.out, hq, show k + 1 + q = k + q + 1 by omega]; exact HStep.out)
       have HLt2 := hid (show ∀ x ∈ L.take k ++ L.drop (k + 1), x < i from fun x hx => by
        rcases List.mem_append.1 hx with e | e
        · exact HLt.out x (List.mem_of_mem_take e)
        · exact HLt.out x (List.mem_of_mem_drop e))
       have HLm3 := hid (show (L.take k ++ L.drop (k + 1)).length = k + q by rw [List.length_append, List.length_take, List.length_drop]; have := HLm.out; omega)
       obtain ⟨x, hx⟩ : ∃ x, L.getD k 0 = x := ⟨_, rfl⟩
       rw [hx] at hxi hxe HTk2
       clear HStep hf1 hf2 hx
       subst hq
       obtain ⟨gl, rfl⟩ : ∃ gl, a' = some ⟨gl, 0, none⟩ := by
        rcases L1.out.2 with ⟨e, hz⟩ | ⟨gl, cap, cur, e, _⟩
        · have := (Value.slice.inj e).2.1; omega
        · exact ⟨gl, (Value.slice.inj e).1⟩
       have hlk : ∀ W : World, W.ownsRow B0 3 1 (.slice (some ⟨gl, 0, none⟩) (k + 1 + q) c') (k + 1 + q) (ins (nI L)) → W.cell? ⟨gl, k, none⟩ = some (.int .i64 (x : Int)) := fun W o => by
        rw [o.cellAt k (by omega)]
        have hkl : k < (nI L).length := by have := HLl.out; omega
        have e2 : (ins (nI L))[k]? = some (.int .i64 ((nI L).getD k 0)) := by simp [ins, List.getD, hkl]
        rw [e2, hxe]
       have HLk := hid hlk
       have hc1 := hlk _ L1.out
       have hc2 := E1.out.cell hxi
       have hx0 : (0 : Int) ≤ (x : Int) := by omega
       have hxi' : (x : Int) < (i : Int) := by omega
       have hk0 : (0 : Int) ≤ (k : Int) := by omega
       have hkm' : (k : Int) < ((k + 1 + q : Nat) : Int) := by omega
       have hkm2 : (k : Int) < (k : Int) + 1 + (q : Int) := by omega
       clear hlk hxe
       obtain ⟨w2, hcl, o2, ht2⟩ := clear_ownA (t := 80) (e := 82) (E1.out.map x hxi) Tryz.underlying80
       have hg2 := ht2.grown
       have hMx := HMl.out x hxi
       have ne : ∀ (v : Value) (nn : Nat) (xs : List Value), w1.ownsRow B0 3 1 v nn xs → v.ownBlock ≠ some (M x) := fun v nn xs o e => by have := (o.lt _ e).1; omega
       have T2 := hid (T1.out.kept hg2 (.inr (ne _ _ _ T1.out)))
       have L2 := hid (L1.out.kept hg2 (.inr (ne _ _ _ L1.out)))
       have E2 := hid (E1.out.clear hxi o2 hg2)
       have W2 := hid (W1.out.grown hg2 (Nat.le_trans HBs.out Z1.out) (fun b e => by cases e; exact E1.out.low x hxi))
       have Z2 := hid (Nat.le_trans Z1.out hg2.size)
       clear T1 L1 E1 W1 Z1 o2 ht2 hg2 ne hMx
       have hc3 := HLk.out _ L2.out
       have bA := Below.alloc1 w2 (.cells #[.int .i64 (x : Int)] 3)
       have HA1 := hid (heap_alloc_new w2 (.cells #[.int .i64 (x : Int)] 3))
       have T3 := hid (owns_below bA (Nat.le_refl _) T2.out)
       have L3 := hid (owns_below bA (Nat.le_refl _) L2.out)
       have E3 := hid (E2.out.below bA)
       have W3 := hid (W2.out.trans (bA.mono (Nat.le_trans HBs.out Z2.out)))
       have Z3 := hid (Nat.le_trans Z2.out bA.size)
       clear bA T2 E2 W2
       go_wp2_with (at_builtin; refine wpList_append_at rfl _ _ 29 rfl B0 3 i0 (.int .i64 0) 1 8 Tryz.underlying29 hinf hz0 hz1 hz2 rfl (by decide) _ T.length _ rfl T3.out ⟨w2.heap.size, 0, none⟩ 1 1 [.int .i64 (x : Int)] rfl rfl (World.news_of_block HA1.out) ?q1 ?q2 ?q3 ?q4 ?_)
       case q1 => simp [Value.oneCell']
       case q2 => unfold maxLen; omega
       case q3 => omega
       case q4 => exact Z3.out
       intro a5 c5 w5 o5 hg5 hat5
       have hrow : ∀ b, (Value.slice a T.length c).ownBlock = some b → B0 ≤ b := fun b e => (T3.out.lt b e).1
       have L5 := hid (L3.out.kept hg5 (by
        by_cases hv : (Value.slice a T.length c).ownBlock = none
        · right; rw [hv]; simp [Value.ownBlock]
        · right
          intro e
          exact HAp.out gl (by rw [← e]; rfl) rfl))
       have E5 := hid (E3.out.kept hg5 (fun e => by have := hrow g e; have := HGl.out; omega) (fun j hj e => by have := hrow _ e; have := HMl.out j hj; omega))
       have W5 := hid (W3.out.grown hg5 (Nat.le_trans HBs.out Z3.out) (fun b e => Nat.le_trans HBs.out (hrow b e)))
       have Z5 := hid (Nat.le_trans Z3.out hg5.size)
       have HLn := hid (show (T ++ [x]).length = T.length + 1 by simp)
       have T5 := hid (show w5.ownsRow B0 3 1 (.slice a5 (T.length + 1) c5) (T.length + 1) (ins (nI (T ++ [x]))) by rw [nI_snoc]; exact o5)
       have HAp5 := hid (show ∀ b, (Value.slice a5 (T.length + 1) c5).ownBlock = some b → gl ≠ b from fun b e e' => by
        subst e'
        rcases hat5 with q1 | q1
        · rw [q1] at e
          exact HAp.out gl e rfl
        · rw [q1] at e
          have h1 := (L2.out.lt gl rfl).2
          have h2 : w2.heap.size + 1 = gl := Option.some.inj e
          omega)
       clear o5 hg5 hat5 hrow T3 L3 E3 W3 Z3 L2 Z2 HA1 HAp hc1 hc2 hc3 hcl
       go_wp2_with fail
       refine (delete_int k q HLl.out L5.out (by omega)).mono ?_
       rintro e w6 ⟨rfl, oD, kD⟩
       have gD := keeps_grown kD
       have T6 := hid (T5.out.kept gD (.inr (fun e => HAp5.out gl e rfl)))
       have hgl := (L5.out.lt gl rfl).1
       have E6 := hid (E5.out.kept gD (fun e => by cases e; have := HGl.out; omega) (fun j hj e => by cases e; have := HMl.out j hj; omega))
       have W6 := hid (W5.out.grown gD (Nat.le_trans HBs.out Z5.out) (fun b e => by cases e; exact Nat.le_trans HBs.out hgl))
       have Z6 := hid (Nat.le_trans Z5.out gD.size)
       have L6 := hid (show w6.ownsRow B0 3 1 (.slice (some ⟨gl, 0, none⟩) (k + q) c') (k + q) (ins (nI (L.take k ++ L.drop (k + 1)))) by rw [nI_cut]; exact oD)
       clear oD kD gD hgl L5 T5 E5 W5 Z5
       go_wp2_with fail
       go_roundw
       case rel =>
        refine ⟨T ++ [x], L.take k ++ L.drop (k + 1), upd R' x [], a5, c5, some ⟨gl, 0, none⟩, c', k + q, by rw [HLn.out], rfl, HLm3, HTk2, hid (by rw [HLn.out]; omega), HLt2, ?_, L6, ?_, E6, W6, Z6⟩
        · rw [HLn.out]; exact T6
        · rw [HLn.out]
          exact hid (fun b e e' => HAp5.out b e (by simpa [Value.ownBlock] using e'))
       case measure => simp [lenV]
end Go.Proofs.YtjcjoabblafboaaGreat
