/- The contracts of the program's isControl, padded and ControlBytes. Conditions: none. -/
import Derived.Test.YtplbejipkaionaaCe17
import Derived.Test.YtplbejipkaionaaJt
import Derived.Test.YtplbejipkaionaaRk3
import Derived.Deep.DeepCutAuto
namespace Go.Proofs.Ytplbejipkaionaa
open Go.RowKit
set_option maxRecDepth 100000

theorem row17 {w : World} {a : Option Addr} {n c : Nat} {zs : List Int} (h : Reads w a n zs) (hc : a = none → c = 0) (hm : n ≤ maxLen) : Row w (.slice a n c) zs := ⟨a, c, by rw [h.len], by rw [h.len]; exact h, hc, by rw [h.len]; exact hm⟩
theorem rows17_2 {w : World} {g : Nat} {p0 n0 l0 p1 n1 l1 : Nat} {B0 B1 : List Int} {t : TypeId} (hg : w.heap[g]? = some (.cells #[.slice (some ⟨p0, 0, none⟩) l0 n0, .slice (some ⟨p1, 0, none⟩) l1 n1] t (0, 0)))
    (h0 : Reads w (some ⟨p0, 0, none⟩) l0 B0) (h1 : Reads w (some ⟨p1, 0, none⟩) l1 B1) (k0 : l0 ≤ 64) (k1 : l1 ≤ 64) :
    ReadsS w (some ⟨g, 0, none⟩) [B0, B1] := by
  have hm : 64 ≤ maxLen := by unfold maxLen; omega
  refine ⟨.inr ⟨g, 0, rfl, fun i hi => ?_⟩⟩
  rw [Nat.zero_add]
  match i, hi with
  | 0, _ => exact ⟨.slice (some ⟨p0, 0, none⟩) l0 n0, by rw [cell_of_row _ _ _ _ _ _ hg]; rfl, show Row w _ B0 from row17 h0 (fun h => by cases h) (by omega)⟩
  | 1, _ => exact ⟨.slice (some ⟨p1, 0, none⟩) l1 n1, by rw [cell_of_row _ _ _ _ _ _ hg]; rfl, show Row w _ B1 from row17 h1 (fun h => by cases h) (by omega)⟩
theorem rows17_5 {w : World} {g : Nat} {p0 n0 l0 p1 n1 l1 p2 n2 l2 p3 n3 l3 p4 n4 l4 : Nat} {B0 B1 B2 B3 B4 : List Int} {t : TypeId} (hg : w.heap[g]? = some (.cells #[.slice (some ⟨p0, 0, none⟩) l0 n0, .slice (some ⟨p1, 0, none⟩) l1 n1, .slice (some ⟨p2, 0, none⟩) l2 n2, .slice (some ⟨p3, 0, none⟩) l3 n3, .slice (some ⟨p4, 0, none⟩) l4 n4] t (0, 0)))
    (h0 : Reads w (some ⟨p0, 0, none⟩) l0 B0) (h1 : Reads w (some ⟨p1, 0, none⟩) l1 B1) (h2 : Reads w (some ⟨p2, 0, none⟩) l2 B2) (h3 : Reads w (some ⟨p3, 0, none⟩) l3 B3) (h4 : Reads w (some ⟨p4, 0, none⟩) l4 B4) (k0 : l0 ≤ 64) (k1 : l1 ≤ 64) (k2 : l2 ≤ 64) (k3 : l3 ≤ 64) (k4 : l4 ≤ 64) :
    ReadsS w (some ⟨g, 0, none⟩) [B0, B1, B2, B3, B4] := by
  have hm : 64 ≤ maxLen := by unfold maxLen; omega
  refine ⟨.inr ⟨g, 0, rfl, fun i hi => ?_⟩⟩
  rw [Nat.zero_add]
  match i, hi with
  | 0, _ => exact ⟨.slice (some ⟨p0, 0, none⟩) l0 n0, by rw [cell_of_row _ _ _ _ _ _ hg]; rfl, show Row w _ B0 from row17 h0 (fun h => by cases h) (by omega)⟩
  | 1, _ => exact ⟨.slice (some ⟨p1, 0, none⟩) l1 n1, by rw [cell_of_row _ _ _ _ _ _ hg]; rfl, show Row w _ B1 from row17 h1 (fun h => by cases h) (by omega)⟩
  | 2, _ => exact ⟨.slice (some ⟨p2, 0, none⟩) l2 n2, by rw [cell_of_row _ _ _ _ _ _ hg]; rfl, show Row w _ B2 from row17 h2 (fun h => by cases h) (by omega)⟩
  | 3, _ => exact ⟨.slice (some ⟨p3, 0, none⟩) l3 n3, by rw [cell_of_row _ _ _ _ _ _ hg]; rfl, show Row w _ B3 from row17 h3 (fun h => by cases h) (by omega)⟩
  | 4, _ => exact ⟨.slice (some ⟨p4, 0, none⟩) l4 n4, by rw [cell_of_row _ _ _ _ _ _ hg]; rfl, show Row w _ B4 from row17 h4 (fun h => by cases h) (by omega)⟩

theorem within17 (n lo hi : Int) (w : World) : Calls Try.prog 36 #[.int .i64 n, .int .i64 lo, .int .i64 hi] w fun e w' => e = .returned (.bool (decide (lo ≤ n ∧ n ≤ hi))) ∧ w' = w := by
  by_cases h1 : lo ≤ n
  · by_cases h2 : n ≤ hi
    · rw [decide_eq_true ⟨h1, h2⟩]
      go_enter Try.func36, Try.ntmps36
      go_wp2
      go_ret
      exact ⟨rfl, rfl⟩
    · rw [decide_eq_false (fun q => h2 q.2)]
      go_enter Try.func36, Try.ntmps36
      go_wp2
      go_ret
      exact ⟨rfl, rfl⟩
  · rw [decide_eq_false (fun q => h1 q.1)]
    go_enter Try.func36, Try.ntmps36
    go_wp2
    go_ret
    exact ⟨rfl, rfl⟩
set_option maxHeartbeats 6400000 in
theorem impl_isControl (sq ar ls nx pg : Int) (w : World) :
    Calls Try.prog 22 #[.agg #[.int .i64 sq, .int .i64 ar, .int .i64 ls, .int .i64 nx, .int .i64 pg]] w fun e w' => e = .returned (.bool (okC sq ar ls nx pg)) ∧ Below w.heap.size w w' := by
  have HB := hid (Below.alloc1 w (.cells #[.int .i64 sq, .int .i64 ar, .int .i64 ls, .int .i64 nx, .int .i64 pg] 25))
  have HR := hid (heap_alloc_new w (.cells #[.int .i64 sq, .int .i64 ar, .int .i64 ls, .int .i64 nx, .int .i64 pg] 25))
  go_enter Try.func22, Try.ntmps22
  go_wp2_with fail
  refine (within17 sq 1 1000000 _).mono ?_
  rintro e w1 ⟨rfl, e1⟩
  subst w1
  by_cases hsq : 1 ≤ sq ∧ sq ≤ 1000000
  case neg =>
    rw [decide_eq_false hsq]
    have HE := hid (show okC sq ar ls nx pg = false from decide_eq_false (fun q => hsq q.1))
    go_wp2_with fail
    go_ret
    exact ⟨by rw [HE.out]; rfl, HB.out⟩
  rw [decide_eq_true hsq]
  go_wp2_with fail
  refine (within17 ar 0 1 _).mono ?_
  rintro e w1 ⟨rfl, e1⟩
  subst w1
  by_cases har : 0 ≤ ar ∧ ar ≤ 1
  case neg =>
    rw [decide_eq_false har]
    have HE := hid (show okC sq ar ls nx pg = false from decide_eq_false (fun q => har q.2.1))
    go_wp2_with fail
    go_ret
    exact ⟨by rw [HE.out]; rfl, HB.out⟩
  rw [decide_eq_true har]
  go_wp2_with fail
  refine (within17 ls 1 1000000 _).mono ?_
  rintro e w1 ⟨rfl, e1⟩
  subst w1
  by_cases hls : 1 ≤ ls ∧ ls ≤ 1000000
  case neg =>
    rw [decide_eq_false hls]
    have HE := hid (show okC sq ar ls nx pg = false from decide_eq_false (fun q => hls q.2.2.1))
    go_wp2_with fail
    go_ret
    exact ⟨by rw [HE.out]; rfl, HB.out⟩
  rw [decide_eq_true hls]
  go_wp2_with fail
  refine (within17 nx 1 401 _).mono ?_
  rintro e w1 ⟨rfl, e1⟩
  subst w1
  by_cases hnx : 1 ≤ nx ∧ nx ≤ 401
  case neg =>
    rw [decide_eq_false hnx]
    have HE := hid (show okC sq ar ls nx pg = false from decide_eq_false (fun q => hnx q.2.2.2.1))
    go_wp2_with fail
    go_ret
    exact ⟨by rw [HE.out]; rfl, HB.out⟩
  rw [decide_eq_true hnx]
  go_wp2_with fail
  refine (within17 pg 0 16 _).mono ?_
  rintro e w1 ⟨rfl, e1⟩
  subst w1
  by_cases hpg : 0 ≤ pg ∧ pg ≤ 16
  case neg =>
    rw [decide_eq_false hpg]
    have HE := hid (show okC sq ar ls nx pg = false from decide_eq_false (fun q => hpg q.2.2.2.2))
    go_wp2_with fail
    go_ret
    exact ⟨by rw [HE.out]; rfl, HB.out⟩
  rw [decide_eq_true hpg]
  go_wp2_with fail
  have HE := hid (show okC sq ar ls nx pg = true from decide_eq_true ⟨hsq, har, hls, hnx, hpg⟩)
  go_ret
  exact ⟨by rw [HE.out]; rfl, HB.out⟩

set_option maxHeartbeats 6400000 in
theorem impl_padded {b : Nat} (cap : Nat) {zs : List Int} {w : World} (h : Reads w (some ⟨b, 0, none⟩) 21 zs) :
    Calls Try.prog 25 #[.slice (some ⟨b, 0, none⟩) 21 cap, .int .i64 64] w fun e w' => ∃ v, e = .returned v ∧ w'.ownsRow w.heap.size 5 1 v 64 (bys (zs ++ List.replicate 43 0)) ∧ Below w.heap.size w w' := by
  obtain ⟨i0, hi, hz0, hz1, hz2⟩ := info_parts Try.info5
  have hl := h.len
  have HR := hid h
  have HLe := hid hl
  clear h hl
  go_enter Try.func25, Try.ntmps25
  go_wp2_with (at_make; refine wpList_make_full _ rfl _ _ 22 rfl w.heap.size 5 i0 (.int .u8 0) 1 Try.underlying22 hi hz0 hz1 _ _ _ _ 43 rfl rfl (by omega) (by omega) ?b2 ?b3 (Nat.le_refl _) ?_)
  case b2 => rw [hz2]; omega
  case b3 => unfold maxLen; omega
  intro w0 hown0 hgrow0
  obtain ⟨g, hg⟩ : ∃ g, w.heap.size = g := ⟨_, rfl⟩
  have HB := hid ((Below.refl w.heap.size w).grown hgrow0 (Nat.le_refl _) (fun k h => by cases h))
  have HZ := hid (show Reads w0 (some ⟨g, 0, none⟩) 43 (List.replicate 43 0) by
    rw [← hg]
    refine own_reads17 (base := w.heap.size) (c := 43) (by rw [toList_madeCells_one] at hown0; simpa [bys] using hown0) ?_
    intro i
    have : (List.replicate 43 (0 : Int)).getD i 0 = 0 := by
      rw [List.getD_eq_getElem?_getD, List.getElem?_replicate]
      split <;> rfl
    omega)
  replace HR := hid (HR.out.below HB.out (Nat.le_refl _))
  clear hown0 hgrow0
  try simp only [hg]
  go_wp2_with fail
  have bM := Below.alloc1 w0 (.cells #[.slice (some ⟨b, 0, none⟩) 21 cap, .slice (some ⟨g, 0, none⟩) 43 43] 22)
  have hgg := heap_alloc_new w0 (.cells #[.slice (some ⟨b, 0, none⟩) 21 cap, .slice (some ⟨g, 0, none⟩) 43 43] 22)
  have RS := rows17_2 hgg (HR.out.below bM (Nat.le_refl _)) (HZ.out.below bM (Nat.le_refl _)) (by omega) (by omega)
  have htt : tot [zs, List.replicate 43 (0 : Int)] = 64 := by simp only [tot, HLe.out, List.length_replicate]
  refine (impl_joined (m := 2) 2 RS rfl (by omega) (by omega)).mono ?_
  rintro e w1 ⟨v, rfl, o, b1⟩
  rw [htt] at o
  obtain ⟨q1, q2, rfl⟩ := own_sl o
  have HA := hid (HB.out.trans (bM.mono HB.out.size))
  have HO := hid (owns_base o HA.out.size)
  have HB2 := hid (HA.out.trans (b1.mono HA.out.size))
  clear o b1 hgg RS bM htt HR HZ HA
  go_wp2_with fail
  go_ret
  exact ⟨_, rfl, HO.out, HB2.out⟩
theorem put_one17 (x : Int) (h0 : 0 ≤ x) (h : x ≤ 255) : putL x 1 = [x] := by
  obtain ⟨n, rfl⟩ := Int.eq_ofNat_of_zero_le h0
  rw [show (1 : Int) = ((1 : Nat) : Int) from rfl, putL_yes n 1 (by omega) (by omega) (sh_le_pow n 1 (by omega)), dig_one n (by omega)]
theorem cells5_below {w w' : World} {g : Nat} {a b c d e : Value} (h : w.cell? ⟨g, 0, none⟩ = some a ∧ w.cell? ⟨g, 1, none⟩ = some b ∧ w.cell? ⟨g, 2, none⟩ = some c ∧ w.cell? ⟨g, 3, none⟩ = some d ∧ w.cell? ⟨g, 4, none⟩ = some e) (q : Below w.heap.size w w') :
    w'.cell? ⟨g, 0, none⟩ = some a ∧ w'.cell? ⟨g, 1, none⟩ = some b ∧ w'.cell? ⟨g, 2, none⟩ = some c ∧ w'.cell? ⟨g, 3, none⟩ = some d ∧ w'.cell? ⟨g, 4, none⟩ = some e := by
  have hl : g < w.heap.size := World.block_lt_of_cell? w _ h.1
  exact ⟨(q.cell (p := ⟨g, 0, none⟩) hl).trans h.1, (q.cell (p := ⟨g, 1, none⟩) hl).trans h.2.1, (q.cell (p := ⟨g, 2, none⟩) hl).trans h.2.2.1, (q.cell (p := ⟨g, 3, none⟩) hl).trans h.2.2.2.1, (q.cell (p := ⟨g, 4, none⟩) hl).trans h.2.2.2.2⟩
set_option maxHeartbeats 25600000 in
theorem impl_ControlBytes (sq ar ls nx pg : Int) (w : World) :
    Calls Try.prog 8 #[.agg #[.int .i64 sq, .int .i64 ar, .int .i64 ls, .int .i64 nx, .int .i64 pg]] w fun e w' => ∃ v, e = .returned v ∧ w'.ownsRow w.heap.size 5 1 v (ctlL sq ar ls nx pg).length (bys (ctlL sq ar ls nx pg)) ∧ Below w.heap.size w w' := by
  have HB := hid (Below.alloc1 w (.cells #[.int .i64 sq, .int .i64 ar, .int .i64 ls, .int .i64 nx, .int .i64 pg] 25))
  have HR := hid (heap_alloc_new w (.cells #[.int .i64 sq, .int .i64 ar, .int .i64 ls, .int .i64 nx, .int .i64 pg] 25))
  have HNo := hid (fun (q : okC sq ar ls nx pg = false) => show ctlL sq ar ls nx pg = [] by unfold ctlL; rw [q]; rfl)
  go_enter Try.func8, Try.ntmps8
  go_wp2_with (refine wpList_load_row rfl 25 (.tmp 1) rfl w.heap.size rfl 25 _ (0, 0) _ HR.out Try.underlying25 rfl size_ct ?_)
  obtain ⟨g, hg⟩ : ∃ g, w.heap.size = g := ⟨_, rfl⟩
  have HS := hid (show w.heap.size < (w.alloc (.cells #[.int .i64 sq, .int .i64 ar, .int .i64 ls, .int .i64 nx, .int .i64 pg] 25)).heap.size by rw [alloc_size]; omega)
  simp only [hg] at HR HS ⊢
  generalize w.alloc (.cells #[.int .i64 sq, .int .i64 ar, .int .i64 ls, .int .i64 nx, .int .i64 pg] 25) = w0 at *
  refine (impl_isControl sq ar ls nx pg _).mono ?_
  rintro e w1 ⟨rfl, b⟩
  have HC := hid (show w1.cell? ⟨g, 0, none⟩ = some (.int .i64 sq) ∧ w1.cell? ⟨g, 1, none⟩ = some (.int .i64 ar) ∧ w1.cell? ⟨g, 2, none⟩ = some (.int .i64 ls) ∧ w1.cell? ⟨g, 3, none⟩ = some (.int .i64 nx) ∧ w1.cell? ⟨g, 4, none⟩ = some (.int .i64 pg) by
    have hr := (b.block g (by have := HS.out; omega)).trans HR.out
    refine ⟨?_, ?_, ?_, ?_, ?_⟩ <;> (rw [cell_of_row _ _ _ _ _ _ hr]; rfl))
  replace HB := hid (HB.out.trans (b.mono HB.out.size))
  clear b HR HS
  by_cases hok : okC sq ar ls nx pg = true
  case neg =>
    have hno : okC sq ar ls nx pg = false := by simpa using hok
    have HE := hid (HNo.out hno)
    rw [hno]
    go_wp2_with fail
    go_ret
    exact ⟨_, rfl, by rw [HE.out]; exact World.ownsRow_nil _ _ _ _, HB.out⟩
  have HY := hid (ctl_yes hok)
  have k := of_decide_eq_true hok
  have HBB := hid (bodyC_bd hok).2
  have HBL := hid (bodyC_bd hok).1
  rw [hok]
  have f0 := fun W => impl_PutNum sq 4 W (by omega)
  have L0 := hid (putL_four sq (by omega) (by omega))
  have BD0 := hid (putL_bd sq 4)
  rw [L0.out] at f0
  have F0 := hid f0
  clear f0
  have e1 : putL ar 1 = [ar] := put_one17 ar (by omega) (by omega)
  have f1 := fun W => impl_PutNum ar 1 W (by omega)
  have L1 := hid (show ([ar] : List Int).length = 1 from rfl)
  have BD1 := hid (bd_one ar (by omega) (by omega))
  rw [e1, L1.out] at f1
  clear e1
  have F1 := hid f1
  clear f1
  have f2 := fun W => impl_PutNum ls 4 W (by omega)
  have L2 := hid (putL_four ls (by omega) (by omega))
  have BD2 := hid (putL_bd ls 4)
  rw [L2.out] at f2
  have F2 := hid f2
  clear f2
  have f3 := fun W => impl_PutNum nx 4 W (by omega)
  have L3 := hid (putL_four nx (by omega) (by omega))
  have BD3 := hid (putL_bd nx 4)
  rw [L3.out] at f3
  have F3 := hid f3
  clear f3
  have e4 : putL pg 1 = [pg] := put_one17 pg (by omega) (by omega)
  have f4 := fun W => impl_PutNum pg 1 W (by omega)
  have L4 := hid (show ([pg] : List Int).length = 1 from rfl)
  have BD4 := hid (bd_one pg (by omega) (by omega))
  rw [e4, L4.out] at f4
  clear e4
  have F4 := hid f4
  clear f4
  have HE := hid (show [putL sq 4, [ar], putL ls 4, putL nx 4, [pg]].flatten = bodyC sq ar ls nx pg by unfold bodyC; simp)
  generalize putL sq 4 = D0 at F0 L0 BD0 HE
  generalize [ar] = D1 at F1 L1 BD1 HE
  generalize putL ls 4 = D2 at F2 L2 BD2 HE
  generalize putL nx 4 = D3 at F3 L3 BD3 HE
  generalize [pg] = D4 at F4 L4 BD4 HE
  have HT : Hid (ctlL sq ar ls nx pg = fillC (frameL 9 (bodyC sq ar ls nx pg)) ∧ (frameL 9 (bodyC sq ar ls nx pg)).length = 21 ∧ (∀ i, 0 ≤ (frameL 9 (bodyC sq ar ls nx pg)).getD i 0 ∧ (frameL 9 (bodyC sq ar ls nx pg)).getD i 0 ≤ 255)) := HY
  clear k hok HNo HY
  obtain ⟨RES, hres⟩ : ∃ R, ctlL sq ar ls nx pg = R := ⟨_, rfl⟩
  have HQ := hid hres
  rw [hres] at HT
  clear hres
  generalize bodyC sq ar ls nx pg = BDY at *
  go_upto_region 3 with fail
  replace HC := hid (cells5_below HC.out ((Still.drew w1).below _))
  replace HB := hid (HB.out.trans (((Still.drew w1).below _).mono HB.out.size))
  refine region_K 17 (fun W => W.cell? ⟨g, 0, none⟩ = some (.int .i64 sq) ∧ W.cell? ⟨g, 1, none⟩ = some (.int .i64 ar) ∧ W.cell? ⟨g, 2, none⟩ = some (.int .i64 ls) ∧ W.cell? ⟨g, 3, none⟩ = some (.int .i64 nx) ∧ W.cell? ⟨g, 4, none⟩ = some (.int .i64 pg)) (by kernel_rfl) ?_ (fun hHeld => ?_)
  · exact HC.out
  refine anyK_take (i := 0) (v := ?v501) rfl (by kernel_rfl) (by kernel_rfl) (by kernel_rfl) (by kernel_rfl) (fun _ _ _ h => h) (by rfl) hHeld ?hy501 (some 7) (by rfl) ?rest501
  case hy501 => (intro W hSw; (try dsimp only at hSw); go_simp; (try with_reducible rfl))
  try simp only [Act.put]
  try simp only [List.setIfInBounds_toArray]
  try simp only [List.set_cons_succ, List.set_cons_zero]
  refine anyK_take (i := 1) (v := ?v502) rfl (by kernel_rfl) (by kernel_rfl) (by kernel_rfl) (by kernel_rfl) (fun _ _ _ h => h) (by rfl) hHeld ?hy502 (some 8) (by rfl) ?rest502
  case hy502 => (intro W hSw; (try dsimp only at hSw); go_simp; (try with_reducible rfl))
  try simp only [Act.put]
  try simp only [List.setIfInBounds_toArray]
  try simp only [List.set_cons_succ, List.set_cons_zero]
  refine anyK_take (i := 3) (v := ?v503) rfl (by kernel_rfl) (by kernel_rfl) (by kernel_rfl) (by kernel_rfl) (fun _ _ _ h => h) (by rfl) hHeld ?hy503 (some 10) (by rfl) ?rest503
  case hy503 => (intro W hSw; (try dsimp only at hSw); go_simp; (try with_reducible rfl))
  try simp only [Act.put]
  try simp only [List.setIfInBounds_toArray]
  try simp only [List.set_cons_succ, List.set_cons_zero]
  refine anyK_take (i := 4) (v := ?v504) rfl (by kernel_rfl) (by kernel_rfl) (by kernel_rfl) (by kernel_rfl) (fun _ _ _ h => h) (by rfl) hHeld ?hy504 (some 11) (by rfl) ?rest504
  case hy504 => (intro W hSw; (try dsimp only at hSw); go_simp; (try with_reducible rfl))
  try simp only [Act.put]
  try simp only [List.setIfInBounds_toArray]
  try simp only [List.set_cons_succ, List.set_cons_zero]
  refine anyK_take (i := 6) (v := ?v505) rfl (by kernel_rfl) (by kernel_rfl) (by kernel_rfl) (by kernel_rfl) (fun _ _ _ h => h) (by rfl) hHeld ?hy505 (some 13) (by rfl) ?rest505
  case hy505 => (intro W hSw; (try dsimp only at hSw); go_simp; (try with_reducible rfl))
  try simp only [Act.put]
  try simp only [List.setIfInBounds_toArray]
  try simp only [List.set_cons_succ, List.set_cons_zero]
  refine anyK_take (i := 7) (v := ?v506) rfl (by kernel_rfl) (by kernel_rfl) (by kernel_rfl) (by kernel_rfl) (fun _ _ _ h => h) (by rfl) hHeld ?hy506 (some 14) (by rfl) ?rest506
  case hy506 => (intro W hSw; (try dsimp only at hSw); go_simp; (try with_reducible rfl))
  try simp only [Act.put]
  try simp only [List.setIfInBounds_toArray]
  try simp only [List.set_cons_succ, List.set_cons_zero]
  refine anyK_take (i := 9) (v := ?v507) rfl (by kernel_rfl) (by kernel_rfl) (by kernel_rfl) (by kernel_rfl) (fun _ _ _ h => h) (by rfl) hHeld ?hy507 (some 16) (by rfl) ?rest507
  case hy507 => (intro W hSw; (try dsimp only at hSw); go_simp; (try with_reducible rfl))
  try simp only [Act.put]
  try simp only [List.setIfInBounds_toArray]
  try simp only [List.set_cons_succ, List.set_cons_zero]
  refine anyK_take (i := 10) (v := ?v508) rfl (by kernel_rfl) (by kernel_rfl) (by kernel_rfl) (by kernel_rfl) (fun _ _ _ h => h) (by rfl) hHeld ?hy508 (some 17) (by rfl) ?rest508
  case hy508 => (intro W hSw; (try dsimp only at hSw); go_simp; (try with_reducible rfl))
  try simp only [Act.put]
  try simp only [List.setIfInBounds_toArray]
  try simp only [List.set_cons_succ, List.set_cons_zero]
  refine anyK_take (i := 12) (v := ?v509) rfl (by kernel_rfl) (by kernel_rfl) (by kernel_rfl) (by kernel_rfl) (fun _ _ _ h => h) (by rfl) hHeld ?hy509 (some 19) (by rfl) ?rest509
  case hy509 => (intro W hSw; (try dsimp only at hSw); go_simp; (try with_reducible rfl))
  try simp only [Act.put]
  try simp only [List.setIfInBounds_toArray]
  try simp only [List.set_cons_succ, List.set_cons_zero]
  refine anyK_take (i := 13) (v := ?v510) rfl (by kernel_rfl) (by kernel_rfl) (by kernel_rfl) (by kernel_rfl) (fun _ _ _ h => h) (by rfl) hHeld ?hy510 (some 20) (by rfl) ?rest510
  case hy510 => (intro W hSw; (try dsimp only at hSw); go_simp; (try with_reducible rfl))
  try simp only [Act.put]
  try simp only [List.setIfInBounds_toArray]
  try simp only [List.set_cons_succ, List.set_cons_zero]
  refine anyK_step (i := 2) (by kernel_rfl) rfl (fun K hK => ?_)
  go_simp
  refine (F0.out _).mono ?_
  rintro e y0 ⟨v, rfl, o, b⟩
  obtain ⟨p0, n0, rfl, r⟩ := own_pos17 o BD0.out (by omega)
  replace HC := hid (cells5_below HC.out b)
  replace HB := hid (HB.out.trans (b.mono HB.out.size))
  have HR0 := hid r
  clear b o r
  go_wp2_with fail
  refine hK.out _ _ ?_ (fun hH2 => ?_)
  · exact HC.out
  clear hK K hHeld
  have hHeld := hH2
  clear hH2
  try simp only [Act.put]
  try simp only [List.setIfInBounds_toArray]
  try simp only [List.set_cons_succ, List.set_cons_zero]
  refine anyK_step (i := 5) (by kernel_rfl) rfl (fun K hK => ?_)
  go_simp
  refine (F1.out _).mono ?_
  rintro e y1 ⟨v, rfl, o, b⟩
  obtain ⟨p1, n1, rfl, r⟩ := own_pos17 o BD1.out (by omega)
  replace HC := hid (cells5_below HC.out b)
  replace HR0 := hid (HR0.out.below b (Nat.le_refl _))
  replace HB := hid (HB.out.trans (b.mono HB.out.size))
  have HR1 := hid r
  clear b o r
  go_wp2_with fail
  refine hK.out _ _ ?_ (fun hH2 => ?_)
  · exact HC.out
  clear hK K hHeld
  have hHeld := hH2
  clear hH2
  try simp only [Act.put]
  try simp only [List.setIfInBounds_toArray]
  try simp only [List.set_cons_succ, List.set_cons_zero]
  refine anyK_step (i := 8) (by kernel_rfl) rfl (fun K hK => ?_)
  go_simp
  refine (F2.out _).mono ?_
  rintro e y2 ⟨v, rfl, o, b⟩
  obtain ⟨p2, n2, rfl, r⟩ := own_pos17 o BD2.out (by omega)
  replace HC := hid (cells5_below HC.out b)
  replace HR0 := hid (HR0.out.below b (Nat.le_refl _))
  replace HR1 := hid (HR1.out.below b (Nat.le_refl _))
  replace HB := hid (HB.out.trans (b.mono HB.out.size))
  have HR2 := hid r
  clear b o r
  go_wp2_with fail
  refine hK.out _ _ ?_ (fun hH2 => ?_)
  · exact HC.out
  clear hK K hHeld
  have hHeld := hH2
  clear hH2
  try simp only [Act.put]
  try simp only [List.setIfInBounds_toArray]
  try simp only [List.set_cons_succ, List.set_cons_zero]
  refine anyK_step (i := 11) (by kernel_rfl) rfl (fun K hK => ?_)
  go_simp
  refine (F3.out _).mono ?_
  rintro e y3 ⟨v, rfl, o, b⟩
  obtain ⟨p3, n3, rfl, r⟩ := own_pos17 o BD3.out (by omega)
  replace HC := hid (cells5_below HC.out b)
  replace HR0 := hid (HR0.out.below b (Nat.le_refl _))
  replace HR1 := hid (HR1.out.below b (Nat.le_refl _))
  replace HR2 := hid (HR2.out.below b (Nat.le_refl _))
  replace HB := hid (HB.out.trans (b.mono HB.out.size))
  have HR3 := hid r
  clear b o r
  go_wp2_with fail
  refine hK.out _ _ ?_ (fun hH2 => ?_)
  · exact HC.out
  clear hK K hHeld
  have hHeld := hH2
  clear hH2
  try simp only [Act.put]
  try simp only [List.setIfInBounds_toArray]
  try simp only [List.set_cons_succ, List.set_cons_zero]
  refine anyK_step (i := 14) (by kernel_rfl) rfl (fun K hK => ?_)
  go_simp
  refine (F4.out _).mono ?_
  rintro e y4 ⟨v, rfl, o, b⟩
  obtain ⟨p4, n4, rfl, r⟩ := own_pos17 o BD4.out (by omega)
  replace HC := hid (cells5_below HC.out b)
  replace HR0 := hid (HR0.out.below b (Nat.le_refl _))
  replace HR1 := hid (HR1.out.below b (Nat.le_refl _))
  replace HR2 := hid (HR2.out.below b (Nat.le_refl _))
  replace HR3 := hid (HR3.out.below b (Nat.le_refl _))
  replace HB := hid (HB.out.trans (b.mono HB.out.size))
  have HR4 := hid r
  clear b o r
  go_wp2_with fail
  refine hK.out _ _ ?_ (fun hH2 => ?_)
  · exact HC.out
  clear hK K hHeld
  have hHeld := hH2
  clear hH2
  try simp only [Act.put]
  try simp only [List.setIfInBounds_toArray]
  try simp only [List.set_cons_succ, List.set_cons_zero]
  refine anyK_step (i := 15) (by kernel_rfl) rfl (fun K hK => ?_)
  go_simp
  have bM := Below.alloc1 y4 (.cells #[.slice (some ⟨p0, 0, none⟩) 4 n0, .slice (some ⟨p1, 0, none⟩) 1 n1, .slice (some ⟨p2, 0, none⟩) 4 n2, .slice (some ⟨p3, 0, none⟩) 4 n3, .slice (some ⟨p4, 0, none⟩) 1 n4] 22)
  replace HC := hid (cells5_below HC.out bM)
  refine hK.out _ _ ?_ (fun hH2 => ?_)
  · exact HC.out
  clear hK K hHeld
  have hHeld := hH2
  clear hH2
  try simp only [Act.put]
  try simp only [List.setIfInBounds_toArray]
  try simp only [List.set_cons_succ, List.set_cons_zero]
  refine anyK_step (i := 16) (by kernel_rfl) rfl (fun K hK => ?_)
  go_simp
  have hg := heap_alloc_new y4 (.cells #[.slice (some ⟨p0, 0, none⟩) 4 n0, .slice (some ⟨p1, 0, none⟩) 1 n1, .slice (some ⟨p2, 0, none⟩) 4 n2, .slice (some ⟨p3, 0, none⟩) 4 n3, .slice (some ⟨p4, 0, none⟩) 1 n4] 22)
  have RS := rows17_5 hg (HR0.out.below bM (Nat.le_refl _)) (HR1.out.below bM (Nat.le_refl _)) (HR2.out.below bM (Nat.le_refl _)) (HR3.out.below bM (Nat.le_refl _)) (HR4.out.below bM (Nat.le_refl _)) (by omega) (by omega) (by omega) (by omega) (by omega)
  have htt : tot [D0, D1, D2, D3, D4] = 14 := by simp only [tot, L0.out, L1.out, L2.out, L3.out, L4.out]
  refine (impl_joined (m := 5) 5 RS rfl (by omega) (by omega)).mono ?_
  rintro e y9 ⟨v, rfl, o, b⟩
  rw [htt] at o
  replace HC := hid (cells5_below HC.out b)
  have BDF := hid (show ∀ i, 0 ≤ ([D0, D1, D2, D3, D4].flatten).getD i 0 ∧ ([D0, D1, D2, D3, D4].flatten).getD i 0 ≤ 255 by rw [HE.out]; exact HBB.out)
  obtain ⟨q1, q2, rfl, RR⟩ := own_pos17 o BDF.out (by omega)
  have HRB := hid RR
  have HA := hid (HB.out.trans (bM.mono HB.out.size))
  replace HB := hid (HA.out.trans (b.mono HA.out.size))
  clear o b hg RS bM htt HR0 HR1 HR2 HR3 HR4 HA RR
  go_wp2_with fail
  refine hK.out _ _ ?_ (fun hH2 => ?_)
  · exact HC.out
  clear hK K hHeld
  have hHeld := hH2
  clear hH2
  try simp only [Act.put]
  try simp only [List.setIfInBounds_toArray]
  try simp only [List.set_cons_succ, List.set_cons_zero]
  refine anyK_last (by kernel_rfl) rfl (fun K hK => ?_)
  go_simp
  refine hK.out _ _ ?_
  clear hK K hHeld
  refine anyK_done (by kernel_rfl) ?_ _
  go_wp2_with fail
  rw [HE.out] at HRB
  refine (impl_Frame q2 HRB.out (by omega) 9).mono ?_
  rintro e w2 ⟨v, rfl, o, b⟩
  rw [frameOf_yes 9 BDY ⟨by omega, by omega, by have := HBL.out; omega⟩, HT.out.2.1] at o
  obtain ⟨p6, n6, rfl, r⟩ := own_pos17 o HT.out.2.2 (by omega)
  replace HB := hid (HB.out.trans (b.mono HB.out.size))
  have R6 := hid r
  clear o b r HRB
  go_wp2_with fail
  refine (impl_padded n6 R6.out).mono ?_
  rintro e w3 ⟨v, rfl, o, b⟩
  obtain ⟨q3, q4, rfl⟩ := own_sl o
  have HO := hid (owns_base o HB.out.size)
  replace HB := hid (HB.out.trans (b.mono HB.out.size))
  clear o b R6
  go_wp2_with fail
  go_ret
  have o := HO.out
  have e1 : RES = frameL 9 BDY ++ List.replicate 43 0 := by rw [HT.out.1]; unfold fillC; rw [HT.out.2.1]
  refine ⟨_, rfl, ?_, HB.out⟩
  rw [HQ.out, show RES.length = 64 by rw [e1, List.length_append, HT.out.2.1, List.length_replicate], e1]
  exact o
end Go.Proofs.Ytplbejipkaionaa
