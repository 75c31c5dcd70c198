/- Texts of this proof in one: Ku11 Kz11 Ph Id Ct Cli Ma11. -/
import Derived.Test.YtlkoghdajpbffaaGreatMgl
import Derived.Test.YtlkoghdajpbffaaGreatKy11
import Derived.Test.YtlkoghdajpbffaaGreatMgf
import Derived.WalkLawsBesides
import Derived.Laws.AppendOwnNone
/- The program's linkedOf, TreeOk and TreeHeight. Conditions: texts of at most 2^21 bytes. -/

namespace Go.Proofs.YtlkoghdajpbffaaGreat
open Go.RowKit
set_option maxRecDepth 100000
theorem hgt_le (ns : List Nd) : ∀ (f : Nat) (x : Int), hgt ns f x ≤ f + 1
 | 0, _ => by simp [hgt]
 | f + 1, x => by
  unfold hgt
  simp only
  split
  · omega
  · have := hgt_le ns f ((ns.getD x.toNat nd0).ks.getD 0 0); omega
set_option maxHeartbeats 1600000 in
theorem impl_Index {w : World} {r N : Nat} {sd : List Bool} (h : NRow w r N sd) (hN : N ≤ 300) :
 Calls Tryz.prog 76 #[.slice (some ⟨r, 0, none⟩) N N, .pointer none] w fun e w' => ∃ y : Int, e = .returned (.int .i64 y) ∧ Hid (decide (0 ≤ y) = !sd.all id) ∧ Hid (-1 ≤ y ∧ y ≤ 300) ∧ w' = w := by
 have HR := hid h
 clear h
 go_enter Tryz.func76, Tryz.ntmps76
 go_wp2_with fail
 go_loopw [8] (fun i wr => ∃ k : Nat, k ≤ N ∧ i = .int .i64 k ∧ Hid (∀ j, j < k → sd.getD j true = true) ∧ wr = w) (fun i _ => N - (intOf i).toNat)
 case atStart => exact ⟨0, Nat.zero_le _, rfl, hid (fun j hj => by omega), rfl⟩
 case round =>
  obtain ⟨k, hk, rfl, HA, rfl⟩ := hrel
  by_cases hlt : k < N
  · have hlt' : (k : Int) < (N : Int) := by omega
    have hk0 : (0 : Int) ≤ (k : Int) := by omega
    obtain ⟨o, hc, ho⟩ := HR.out.at hlt
    cases o with
    | none =>
     have HO := hid ho
     clear ho
     go_wp2_with fail
     go_ret
     refine ⟨(k : Int), rfl, hid ?_, hid ⟨by omega, by omega⟩, rfl⟩
     rw [decide_eq_true hk0]
     have e0 : sd.all id = false := by
      have hl := HR.out.len
      have hks : k < sd.length := by omega
      refine List.all_eq_false.2 ⟨sd.getD k true, ?_, by rw [HO.out]; simp⟩
      rw [List.getD_eq_getElem?_getD, List.getElem?_eq_getElem hks]
      exact List.getElem_mem hks
     rw [e0]
     rfl
    | some a0 =>
     have HO := hid ho
     have hbo : ∀ W : World, (binOp BinOp.eql 70 (.pointer none) (.pointer (some a0))).run Tryz.prog W = .ok (.bool false) W := fun W => by kernel_rfl
     clear ho
     go_wp2_with fail
     go_roundw
     case rel => exact ⟨k + 1, by omega, by go_num, hid (fun j hj => by by_cases e : j = k; (rw [e, HO.out]; rfl); exact HA.out j (by omega)), by trivial⟩
     case measure => simp [intOf]; omega
  · obtain rfl : k = N := by omega
    go_wp2_with fail
    go_ret
    refine ⟨-1, rfl, hid ?_, hid ⟨by omega, by omega⟩, rfl⟩
    have e0 : sd.all id = true := by
     rw [List.all_eq_true]
     intro z hz
     obtain ⟨j, hj, rfl⟩ := List.mem_iff_getElem.1 hz
     have := HA.out j (by rw [← HR.out.len]; exact hj)
     rw [List.getD_eq_getElem?_getD, List.getElem?_eq_getElem hj] at this
     exact this
    rw [e0]
    rfl
set_option maxHeartbeats 1600000 in
theorem impl_Contains {w : World} {r N : Nat} {sd : List Bool} (h : NRow w r N sd) (hN : N ≤ 300) :
 Calls Tryz.prog 49 #[.slice (some ⟨r, 0, none⟩) N N, .pointer none] w fun e w' => e = .returned (.bool (!sd.all id)) ∧ w' = w := by
 have HR := hid h
 clear h
 go_enter Tryz.func49, Tryz.ntmps49
 go_wp2_with fail
 refine (impl_Index HR.out hN).mono ?_
 rintro e w1 ⟨y, rfl, HY, HY2, e1⟩
 subst w1
 go_wp2_with fail
 go_ret
 exact ⟨by rw [← HY.out]; rfl, rfl⟩
def rowN (N : Nat) : Obj := .cells (List.replicate N (.pointer none)).toArray 70
theorem made1 (z : Value) (n : Nat) : madeCells #[z] n = (List.replicate n z).toArray := by
 apply Array.ext'
 rw [toList_madeCells_one]
theorem mkN (N : Nat) (hN : N ≤ 300) (W : World) : (Instr.makeSlice 75 (.int .i64 (N : Int)) (.int .i64 (N : Int))).run Tryz.prog W = .ok (.slice (some ⟨W.heap.size, 0, none⟩) N N) (W.alloc (rowN N)) := by
 obtain ⟨i0, hi, hz0, hz1, hz2⟩ := info_parts Tryz.infoPn
 have := run_make (P := Tryz.prog) W 75 70 i0 (.pointer none) Tryz.underlying75 hi hz0 .i64 .i64 (N : Int) (N : Int) (by omega) (by omega) (by rw [hz2]; omega) (by omega)
 rw [this, hz1, Nat.mul_one, Int.toNat_natCast]
 show Result.ok _ (W.alloc (.cells (madeCells #[.pointer none] N) _)) = _
 rw [made1]
 rfl
end Go.Proofs.YtlkoghdajpbffaaGreat
/- The specification's look at a tree, its TreeOk and TreeHeight. Conditions: texts of at most 2^21 bytes. -/


namespace Go.Proofs.YtlkoghdajpbffaaGreat
open Go.RowKit
set_option maxRecDepth 100000
theorem Tryz.infoBl : (Tryz.prog.info? 4).map (fun i => (i.zero, i.size, i.bytes)) = some (some (.bool false), 1, 1) := by kernel_rfl
def rowB (N : Nat) : Obj := .cells (List.replicate N (.bool false)).toArray 4
theorem mkB (N : Nat) (hN : N ≤ 300) (W : World) : (Instr.makeSlice 93 (.int .i64 (N : Int)) (.int .i64 (N : Int))).run Tryz.prog W = .ok (.slice (some ⟨W.heap.size, 0, none⟩) N N) (W.alloc (rowB N)) := by
 obtain ⟨i0, hi, hz0, hz1, hz2⟩ := info_parts Tryz.infoBl
 have := run_make (P := Tryz.prog) W 93 4 i0 (.bool false) Tryz.underlying93 hi hz0 .i64 .i64 (N : Int) (N : Int) (by omega) (by omega) (by rw [hz2]; omega) (by omega)
 rw [this, hz1, Nat.mul_one, Int.toNat_natCast]
 show Result.ok _ (W.alloc (.cells (madeCells #[.bool false] N) _)) = _
 rw [made1]
 rfl
def LookP (w w' : World) (ns : List Nd) (N : Nat) (root : Int) (e : Ending) : Prop :=
 ∃ p, e = .returned (.tuple #[.pointer (some ⟨p, 0, none⟩), .bool (treeOk ns root)]) ∧ (treeOk ns root = true → ∃ r av, WK w w' p r N w.heap.size (lookS ns root) av)
set_option maxHeartbeats 6400000 in
theorem spec_look {ad : Option Addr} {N : Nat} (cap : Nat) (root : Int) {ns : List Nd} {w : World} (hR : ReadsD w ad ns) (hns : ns.length = N) (hm : ∀ i j, ((ns.getD i nd0).es.getD j en0).Z.length ≤ 2097152) :
 Calls Tryz.prog 40 #[.agg #[.slice ad N cap, .int .i64 root]] w fun e w' => LookP w w' ns N root e ∧ Below w.heap.size w w' := by
 have HT := hid (show treeOk ns root = (decide (1 ≤ ns.length ∧ ns.length ≤ 300) && ((lookS ns root).seen.all id && !(lookS ns root).wrong)) from rfl)
 rw [hns] at HT
 have hB := two w (.cells #[.slice ad N cap, .int .i64 root] 33) (.cells #[.slice none 0 0, .int .i64 0, .bool false, .slice none 0 0] 95)
 obtain ⟨R1, R2, hz⟩ := two_rows11 w (.cells #[.slice ad N cap, .int .i64 root] 33) (.cells #[.slice none 0 0, .int .i64 0, .bool false, .slice none 0 0] 95)
 have HB := hid hB
 have HR1 := hid R1
 have HR2 := hid R2
 have HZ := hid hz
 have HRD := hid hR
 have HM := hid hm
 have HNs := hid hns
 clear hB R1 R2 hz hR hm hns
 go_enter Tryz.func40, Tryz.ntmps40
 go_upto_region 2 with fail
 generalize (w.alloc (.cells #[.slice ad N cap, .int .i64 root] 33)).alloc (.cells #[.slice none 0 0, .int .i64 0, .bool false, .slice none 0 0] 95) = V at *
 obtain ⟨p1, hp1⟩ : ∃ p1, w.heap.size = p1 := ⟨_, rfl⟩
 obtain ⟨p, hp⟩ : ∃ p, w.heap.size + 1 = p := ⟨_, rfl⟩
 have HP := hid (show w.heap.size = p1 ∧ w.heap.size + 1 = p ∧ V.heap.size = w.heap.size + 2 from ⟨hp1, hp, HZ.out⟩)
 rw [hp] at HR2
 rw [hp1] at HR1
 rw [hp1] at hp
 try simp only [hp1]
 try simp only [hp]
 clear hp hp1
 have k0 : V.cell? ⟨p1, 0, none⟩ = some (.slice ad N cap) := qC HR1.out
 have k1 : V.cell? ⟨p1, 1, none⟩ = some (.int .i64 root) := qC HR1.out
 by_cases h1 : N < 1
 ·
  have h1' : (N : Int) < 1 := by omega
  rw [decide_eq_false (by omega), Bool.false_and] at HT
  go_wp2_with fail
  go_ret2
  exact ⟨⟨p, by rw [HT.out]; rfl, fun e => absurd (HT.out.symm.trans e) (by simp)⟩, HB.out⟩
 have h1' : ¬ (N : Int) < 1 := by omega
 by_cases h2 : 300 < N
 ·
  have h2' : (300 : Int) < (N : Int) := by omega
  rw [decide_eq_false (by omega), Bool.false_and] at HT
  go_wp2_with fail
  go_ret2
  exact ⟨⟨p, by rw [HT.out]; rfl, fun e => absurd (HT.out.symm.trans e) (by simp)⟩, HB.out⟩
 have h2' : ¬ (300 : Int) < (N : Int) := by omega
 rw [decide_eq_true (by omega), Bool.true_and] at HT
 have hN3 : N ≤ 300 := by omega
 have hmk := mkB N hN3
 have kp0 : V.cell? ⟨p, 0, none⟩ = some (.slice none 0 0) := qC HR2.out
 have fp0 : V.frozen? ⟨p, 0, none⟩ = false := frozen_of_row _ _ _ _ _ HR2.out
 have fp1 : (V.alloc (rowB N)).frozen? ⟨p, 0, none⟩ = false := frozen_of_row _ _ _ _ _ (((Below.alloc1 V (rowB N)).block p (by have := HP.out; omega)).trans HR2.out)
 have cp1 : (V.alloc (rowB N)).cell? ⟨p, 0, none⟩ = some (.slice none 0 0) := by rw [cell_of_row _ _ _ _ _ _ (((Below.alloc1 V (rowB N)).block p (by have := HP.out; omega)).trans HR2.out)]; rfl
 have hpz := HP.out
 have hpr : p ≠ V.heap.size := by omega
 have hp1r : p1 ≠ V.heap.size := by omega
 have hp1p : p1 ≠ p := by omega
 have hb1 := Below.alloc1 V (rowB N)
 have hRv := (hb1.block p (by omega)).trans HR2.out
 have HRr := hid (show ((V.alloc (rowB N)).setCell ⟨p, 0, none⟩ (.slice (some ⟨V.heap.size, 0, none⟩) N N)).heap[V.heap.size]? = some (rowB N) from (heap_set_ne _ p 0 V.heap.size _ (fun e => hpr e.symm)).trans (heap_alloc_new V (rowB N)))
 have HRp := hid (show ((V.alloc (rowB N)).setCell ⟨p, 0, none⟩ (.slice (some ⟨V.heap.size, 0, none⟩) N N)).heap[p]? = some (.cells #[.slice (some ⟨V.heap.size, 0, none⟩) N N, .int .i64 0, .bool false, .slice none 0 0] 95) from by rw [heap_setCell_same _ _ _ _ _ _ hRv]; rfl)
 have HR1' := hid (show ((V.alloc (rowB N)).setCell ⟨p, 0, none⟩ (.slice (some ⟨V.heap.size, 0, none⟩) N N)).heap[p1]? = some (.cells #[.slice ad N cap, .int .i64 root] 33) from (heap_set_ne _ p 0 p1 _ hp1p).trans ((hb1.block p1 (by omega)).trans HR1.out))
 have HBW := hid (show Below w.heap.size w ((V.alloc (rowB N)).setCell ⟨p, 0, none⟩ (.slice (some ⟨V.heap.size, 0, none⟩) N N)) from (HB.out.trans (hb1.mono (by omega))).setCell (p := ⟨p, 0, none⟩) (by simp only; omega) _)
 have HZW := hid (show ((V.alloc (rowB N)).setCell ⟨p, 0, none⟩ (.slice (some ⟨V.heap.size, 0, none⟩) N N)).heap.size = V.heap.size + 1 from by rw [set_size, alloc_size])
 have e0 : ((V.alloc (rowB N)).setCell ⟨p, 0, none⟩ (.slice (some ⟨V.heap.size, 0, none⟩) N N)).cell? ⟨p1, 0, none⟩ = some (.slice ad N cap) := by rw [cell_of_row _ _ _ _ _ _ HR1'.out]; rfl
 have e1 : ((V.alloc (rowB N)).setCell ⟨p, 0, none⟩ (.slice (some ⟨V.heap.size, 0, none⟩) N N)).cell? ⟨p1, 1, none⟩ = some (.int .i64 root) := by rw [cell_of_row _ _ _ _ _ _ HR1'.out]; rfl
 clear hb1 hpz h1 h2 hRv
 go_upto_region 5 with fail
 generalize ((V.alloc (rowB N)).setCell ⟨p, 0, none⟩ (.slice (some ⟨V.heap.size, 0, none⟩) N N)) = W at *
 obtain ⟨r, hr⟩ : ∃ r, V.heap.size = r := ⟨_, rfl⟩
 have HPr := hid (show w.heap.size = p1 ∧ w.heap.size + 1 = p ∧ r = w.heap.size + 2 ∧ W.heap.size = r + 1 ∧ p ≠ r by have := HP.out; have := HZW.out; omega)
 rw [hr] at HRr HRp
 try simp only [hr]
 clear hr kp0 fp0 fp1 cp1 hmk k0 k1 hpr hp1r hp1p
 have HWK := hid (show WK w W p r N w.heap.size (st0 N) (.slice none 0 0) from ⟨HRp.out, by rw [HRr.out]; simp [rowB, st0], by simp [st0], AllR.nil _ _ _, (fun b hb => by cases hb), HPr.out.2.2.2.2⟩)
 go_wp2_with fail
 refine (spec_go cap root HNs.out HRD.out HM.out hN3 p r w.heap.size (by have := HPr.out; omega) (by have := HPr.out; omega) qN (N + 1) (st0 N) root 1 none none (.slice none 0 0) (.slice none 0 0) (.slice none 0 0) W (by simp only [st0]; rw [unseen_rep]; omega) (by omega) (by omega) (by simp only [st0]; rw [unseen_rep]; simp; omega) HBW.out.size HBW.out HWK.out rfl rfl (fun b hb => by cases hb) (fun b hb => by cases hb)).mono ?_
 rintro e w2 ⟨rfl, av, hwk, hst⟩
 have HL := hid (show lookS ns root = goS ns (N + 1) (st0 N) root 1 none none by unfold lookS; rw [HNs.out])
 rw [← HL.out] at hwk
 have HW2 := hid hwk
 have HB2 := hid (HBW.out.trans (hst.below HBW.out.size (by have := HPr.out; omega) (by have := HPr.out; omega) (fun b hb => by cases hb)))
 obtain ⟨R, hRR⟩ : ∃ R, lookS ns root = R := ⟨_, rfl⟩
 rw [hRR] at HT HW2
 have HRR := hid hRR
 have kp : w2.cell? ⟨p, 0, none⟩ = some (.slice (some ⟨r, 0, none⟩) N N) := qC HW2.out.box
 have kw : w2.cell? ⟨p, 2, none⟩ = some (.bool R.wrong) := qC HW2.out.box
 clear hwk hst hRR HL e0 e1 HWK
 go_wp2_with fail
 go_loopw [5] (fun i wr => ∃ kk : Nat, kk ≤ N ∧ i = .int .i64 kk ∧ Hid (∀ j, j < kk → R.seen.getD j true = true) ∧ wr = w2) (fun i _ => N - (intOf i).toNat)
 case atStart => exact ⟨0, Nat.zero_le _, rfl, hid (fun j hj => absurd hj (Nat.not_lt_zero _)), rfl⟩
 case round =>
  obtain ⟨kk, hkk, rfl, HA, rfl⟩ := hrel
  by_cases hlt : kk < N
  ·
   have hlt' : (kk : Int) < (N : Int) := by omega
   have hk0 : (0 : Int) ≤ (kk : Int) := by omega
   have cs := HW2.out.seen_at hlt
   obtain ⟨SB, hSB⟩ : ∃ SB, R.seen.getD kk true = SB := ⟨_, rfl⟩
   rw [hSB] at cs
   have HSB := hid hSB
   clear hSB
   cases SB with
   | false =>
    replace HT := hid (show treeOk ns root = false from by
     rw [HT.out, show R.seen.all id = false from List.all_eq_false.2 ⟨false, ?_, by simp⟩, Bool.false_and]
     have hl : kk < R.seen.length := by rw [HW2.out.len]; exact hlt
     have := HSB.out
     rw [List.getD_eq_getElem?_getD, List.getElem?_eq_getElem hl, Option.getD_some] at this
     rw [← this]; exact List.getElem_mem hl)
    go_wp2_with fail
    go_ret2
    exact ⟨⟨p, by rw [HT.out]; rfl, fun e => absurd (HT.out.symm.trans e) (by simp)⟩, HB2.out⟩
   | true =>
    go_wp2_with fail
    go_roundw
    case rel => exact ⟨kk + 1, by omega, by go_num, hid (fun j hj => by by_cases q : j = kk; exact q ▸ HSB.out; exact HA.out j (by omega)), by trivial⟩
    case measure => simp [intOf]; omega
  ·
   obtain rfl : kk = N := by omega
   have hlt' : ¬ (kk : Int) < (kk : Int) := by omega
   have HAll := hid (show R.seen.all id = true from List.all_eq_true.2 (fun b hb => by
    obtain ⟨j, hj, rfl⟩ := List.mem_iff_getElem.1 hb
    have := HA.out j (by rw [← HW2.out.len]; exact hj)
    rw [List.getD_eq_getElem?_getD, List.getElem?_eq_getElem hj, Option.getD_some] at this
    exact this))
   replace HT := hid (show treeOk ns root = !R.wrong by rw [HT.out, HAll.out, Bool.true_and])
   obtain ⟨WR, hWR⟩ : ∃ WR, R.wrong = WR := ⟨_, rfl⟩
   rw [hWR] at kw HT
   have HWR := hid hWR
   clear hWR
   go_upto_region 11 with fail
   have hdr := (Still.drew wr).below wr.heap.size
   refine region_K 99 (fun W => W.cell? ⟨p, 2, none⟩ = some (.bool WR)) (by kernel_rfl) ?_ (fun hh => ?_)
   · exact ((Still.drew wr).cell _).trans kw
   have HWd := hid (HW2.out.below hdr)
   have HBd := hid (HB2.out.trans (hdr.mono HB2.out.size))
   clear kp kw hdr
   generalize wr.drew = u0 at *
   refine tkA (i := 0) (v := ?v1) rfl hh ?hy1 (some 49) rfl ?rest1
   case hy1 => (intro W hSw; have x2 : W.cell? ⟨p, 2, none⟩ = some (.bool WR) := hSw; go_simp; (try with_reducible rfl))
   try simp only [qP]
   refine tkA (i := 1) (v := ?v2) rfl hh ?hy2 (some 50) rfl ?rest2
   case hy2 => (intro W hSw; have x2 : W.cell? ⟨p, 2, none⟩ = some (.bool WR) := hSw; go_simp; (try with_reducible rfl))
   try simp only [qP]
   refine tkA (i := 2) (v := ?v3) rfl hh ?hy3 (some 51) rfl ?rest3
   case hy3 => (intro W hSw; have x2 : W.cell? ⟨p, 2, none⟩ = some (.bool WR) := hSw; go_simp; (try with_reducible rfl))
   try simp only [qP]
   refine tkA (i := 3) (v := ?v4) rfl hh ?hy4 (some 52) rfl ?rest4
   case hy4 => (intro W hSw; have x2 : W.cell? ⟨p, 2, none⟩ = some (.bool WR) := hSw; go_simp; (try with_reducible rfl))
   try simp only [qP]
   refine tkA (i := 4) (v := ?v5) rfl hh ?hy5 (some 53) rfl ?rest5
   case hy5 => (intro W hSw; have x2 : W.cell? ⟨p, 2, none⟩ = some (.bool WR) := hSw; go_simp; (try with_reducible rfl))
   try simp only [qP]
   refine tkA (i := 5) (v := ?v6) rfl hh ?hy6 (some 54) rfl ?rest6
   case hy6 => (intro W hSw; have x2 : W.cell? ⟨p, 2, none⟩ = some (.bool WR) := hSw; go_simp; (try with_reducible rfl))
   try simp only [qP]
   refine tkA (i := 6) (v := ?v7) rfl hh ?hy7 (some 2) rfl ?rest7
   case hy7 => (intro W hSw; have x2 : W.cell? ⟨p, 2, none⟩ = some (.bool WR) := hSw; go_simp; (try with_reducible rfl))
   try simp only [qP]
   refine tkA (i := 7) (v := ?v8) rfl hh ?hy8 (some 3) rfl ?rest8
   case hy8 => (intro W hSw; have x2 : W.cell? ⟨p, 2, none⟩ = some (.bool WR) := hSw; go_simp; (try with_reducible rfl))
   try simp only [qP]
   refine anyK_done (by kernel_rfl) ?_ _
   clear hh
   go_wp2_with fail
   go_ret2
   exact ⟨⟨p, by rw [HT.out]; rfl, fun _ => ⟨r, av, by rw [HRR.out]; exact HWd.out⟩⟩, HBd.out⟩
set_option maxHeartbeats 1600000 in
theorem spec_TreeOk {ad : Option Addr} {N : Nat} (cap : Nat) (root : Int) {ns : List Nd} {w : World} (hR : ReadsD w ad ns) (hns : ns.length = N) (hm : ∀ i j, ((ns.getD i nd0).es.getD j en0).Z.length ≤ 2097152) :
 Calls Tryz.prog 18 #[.agg #[.slice ad N cap, .int .i64 root]] w fun e w' => e = .returned (.bool (treeOk ns root)) ∧ Below w.heap.size w w' := by
 have HB := hid (Below.alloc1 w (.cells #[.slice ad N cap, .int .i64 root] 33))
 have HR := hid (hR.below HB.out qN)
 have HM := hid hm
 have HNs := hid hns
 have hR4 := heap_alloc_new w (.cells #[.slice ad N cap, .int .i64 root] 33)
 have k0 : (w.alloc (.cells #[.slice ad N cap, .int .i64 root] 33)).cell? ⟨w.heap.size, 0, none⟩ = some (.slice ad N cap) := qC hR4
 have k1 : (w.alloc (.cells #[.slice ad N cap, .int .i64 root] 33)).cell? ⟨w.heap.size, 1, none⟩ = some (.int .i64 root) := qC hR4
 clear hR4 hR hm hns
 go_enter Tryz.func18, Tryz.ntmps18
 go_wp2_with fail
 generalize w.alloc (.cells #[.slice ad N cap, .int .i64 root] 33) = V at *
 refine (spec_look cap root HR.out HNs.out HM.out).mono ?_
 rintro e w1 ⟨⟨p, rfl, hp⟩, b⟩
 have HBw := hid (HB.out.trans (b.mono HB.out.size))
 clear b k0 k1
 obtain ⟨TB, hTB⟩ : ∃ TB, treeOk ns root = TB := ⟨_, rfl⟩
 rw [hTB]
 have HTB := hid hTB
 clear hp hTB
 go_wp2_with fail
 go_ret
 exact ⟨by rw [HTB.out]; rfl, HBw.out⟩
end Go.Proofs.YtlkoghdajpbffaaGreat
/- Eight bytes, high first: the program's putHighFirst. -/


namespace Go.Proofs.YtlkoghdajpbffaaGreat
open Go.RowKit
end Go.Proofs.YtlkoghdajpbffaaGreat
/- The contract of the specification's ItemClean. Conditions: texts of at most 2^21 bytes. -/

namespace Go.Proofs.YtlkoghdajpbffaaGreat
open Go.RowKit
end Go.Proofs.YtlkoghdajpbffaaGreat
/- What an item holds, behind an interface: contentOf, and the methods of the kinds. -/



namespace Go.Proofs.YtlkoghdajpbffaaGreat
open Go.RowKit
end Go.Proofs.YtlkoghdajpbffaaGreat
/- The library's Clone, and itemOf: a content turned back into an item. -/



namespace Go.Proofs.YtlkoghdajpbffaaGreat
open Go.RowKit
theorem eql_none (c : Nat) (w : World) : (binOp .eql 26 (.slice none 0 c) (.slice none 0 0)).run Tryz.prog w = .ok (.bool true) w := by kernel_rfl
theorem eql_some (a : Addr) (n c : Nat) (w : World) : (binOp .eql 26 (.slice (some a) n c) (.slice none 0 0)).run Tryz.prog w = .ok (.bool false) w := by kernel_rfl
set_option maxRecDepth 100000 in
set_option maxHeartbeats 1600000 in
theorem bytes_clone {ad : Option Addr} {n : Nat} (cap : Nat) {zs : List Int} {w : World} (h : Reads w ad n zs) (hn : n ≤ 2097152) :
 Calls Tryz.prog 104 #[.slice ad n cap] w fun e w' => ∃ v, e = .returned v ∧ w'.ownsRow w.heap.size 5 1 v n (bys zs) ∧ Below w.heap.size w w' := by
 obtain ⟨i0, hi, hz0, hz1, hz2⟩ := info_parts Tryz.info5
 have hl := h.len
 have o5 := World.ownsRow_lit (base := w.heap.size) (e := 5) (size := 1) w #[] 0 qN (Nat.zero_le _) rfl
 have r2 := h.alloc (.cells #[] 5)
 have O5 := hid o5
 have HR := hid r2
 clear o5 r2
 rcases hc : ad with _ | a
 · subst hc
   obtain rfl : n = 0 := by
    rcases h.cells with h0 | ⟨b, off, e, _⟩
    · exact h0
    · cases e
   obtain rfl : zs = [] := List.eq_nil_of_length_eq_zero hl
   clear h HR O5
   have q := eql_none
   go_enter Tryz.func104, Tryz.ntmps104
   go_wp2_with fail
   go_ret
   exact ⟨_, rfl, World.ownsRow_nil _ _ _ _, Below.refl _ _⟩
 · subst hc
   clear h
   have q := eql_some
   go_enter Tryz.func104, Tryz.ntmps104
   go_wp2_with (at_builtin; refine wpList_append_own _ rfl _ _ 26 rfl w.heap.size 5 i0 (.int .u8 0) 1 1 Tryz.underlying26 hi hz0 hz1 hz2 rfl (by decide) _ _ _ rfl O5.out a n cap (bys zs) rfl ?k2 HR.out.news (bys_one _) ?k4 ?k5 ?k6 ?_)
   case k2 => simp [bys_length, hl]
   case k4 => unfold maxLen; omega
   case k5 => omega
   intro v7 w7 o7 g7 _
   have o8 : w7.ownsRow w.heap.size 5 1 v7 n (bys zs) := by simpa using o7
   have B7 : Below w.heap.size w w7 := (Below.alloc1 w _).grown g7 (by simp) (fun k hk => (O5.out.lt k hk).1)
   have H8 := hid o8
   clear o7 o8 g7 O5 HR
   go_wp2_with fail
   go_ret
   exact ⟨_, rfl, H8.out, B7⟩
end Go.Proofs.YtlkoghdajpbffaaGreat
/- All entries of a tree, the program: gathered and copied. Conditions: texts of at most 2^21 bytes. -/



namespace Go.Proofs.YtlkoghdajpbffaaGreat
open Go.RowKit
set_option maxRecDepth 100000
def allS (ns : List Nd) (root : Int) : List En := if treeOk ns root = true then (lookS ns root).all else []
theorem nodeOk_ents {lo hi : Option En} {es : List En} (h : nodeOk lo hi es = true) : ∀ e ∈ es, entOk e = true := by
 rw [nodeOk_of, Bool.and_eq_true, decide_eq_true_iff, List.countP_eq_length] at h
 intro e he
 have := h.1 e he
 rw [hasB_of, Bool.and_eq_true] at this
 exact this.1
theorem fold_ents {α : Type} (g : St → α → St) (hg : ∀ s t, (∀ e ∈ s.all, entOk e = true) → ∀ e ∈ (g s t).all, entOk e = true) : ∀ (L : List α) (st : St), (∀ e ∈ st.all, entOk e = true) → ∀ e ∈ (L.foldl g st).all, entOk e = true
 | [], _, h => h
 | t :: L, st, h => fold_ents g hg L (g st t) (hg st t h)
theorem goS_ents (ns : List Nd) : ∀ (f : Nat) (st : St) (x deep : Int) (lo hi : Option En), (∀ e ∈ st.all, entOk e = true) → ∀ e ∈ (goS ns f st x deep lo hi).all, entOk e = true
 | 0, _, _, _, _, _, h => h
 | f + 1, st, x, deep, lo, hi, h => by
  rw [goS]
  split
  · exact h
  · simp only
    split
    · exact h
    · split
      · exact h
      · rename_i hno
        have hno' : nodeOk lo hi (ns.getD x.toNat nd0).es = true := by simpa using hno
        split
        · intro e he
          rcases List.mem_append.1 he with q | q
          · exact h e q
          · exact nodeOk_ents hno' e q
        · split
          · exact h
          · exact fold_ents _ (fun s i => goS_ents ns f s _ _ _ _) _ _ h
theorem allS_ok (ns : List Nd) (root : Int) : ∀ e ∈ allS ns root, entOk e = true := by
 unfold allS
 split
 · exact goS_ents ns _ _ _ _ _ _ (fun e he => by cases he)
 · intro e he; cases he
theorem entOk_small {e : En} (h : entOk e = true) : e.Z.length ≤ 40 := by
 unfold entOk entB okK okI at h
 simp only [Bool.and_eq_true, decide_eq_true_eq] at h
 exact h.1.1.2.2.1
theorem sumE_small : ∀ es : List En, (∀ e ∈ es, entOk e = true) → sumE es ≤ 40 * es.length
 | [], _ => Nat.le_refl _
 | e :: es, h => by
  have h1 := sumE_small es (fun x hx => h x (List.mem_cons_of_mem _ hx))
  have h2 := entOk_small (h e (by simp))
  simp only [sumE, List.length_cons]
  omega
theorem allS_small (ns : List Nd) (root : Int) : (allS ns root).length ≤ 1200 ∧ sumE (allS ns root) ≤ 48000 := by
 have h1 : (allS ns root).length ≤ 1200 := by
  unfold allS
  split
  · rename_i h
    unfold treeOk at h
    rw [Bool.and_eq_true, decide_eq_true_iff] at h
    have h2 := (goS_more ns (ns.length + 1) (st0 ns.length) root 1 none none).all
    have h3 : (st0 ns.length).all.length + 4 * unseen (st0 ns.length).seen = 4 * ns.length := by simp only [st0]; rw [unseen_rep]; simp
    unfold lookS
    omega
  · simp
 have h2 := sumE_small _ (allS_ok ns root)
 exact ⟨h1, by omega⟩
theorem allS_lfs {ns : List Nd} {root : Int} (h : treeIs ns root = true) : allS ns root = lfs ns (ns.length + 1) root := by
 have h' : treeOk ns root = true := by rw [tree_same]; exact h
 unfold allS
 rw [if_pos h']
 exact (tree_told h').2
theorem allS_no {ns : List Nd} {root : Int} (h : treeOk ns root = false) : allS ns root = [] := by
 unfold allS
 rw [h, if_neg (by simp)]
set_option maxHeartbeats 6400000 in
theorem impl_copied {ad : Option Addr} {n : Nat} (cap : Nat) {es : List En} {w : World} (hr : ReadsE w ad es) (hn : es.length = n) (hn4 : n ≤ 100000) (hm : ∀ j, (es.getD j en0).Z.length ≤ 2097152) :
 Calls Tryz.prog 90 #[.slice ad n cap] w fun e w' => ∃ v, e = .returned v ∧ OwnE w' w.heap.size w'.heap.size v es ∧ Below w.heap.size w w' := by
 obtain ⟨i0, hi, hz0, hz1, hz2⟩ := info_parts Tryz.infoEn
 have HR := hid hr
 have HN := hid hn
 have HM := hid hm
 clear hr hn hm
 go_enter Tryz.func90, Tryz.ntmps90
 go_wp2_with fail
 go_loopw [3, 8] (fun v i wr => ∃ (k : Nat), k ≤ n ∧ i = .int .i64 k ∧ Hid (OwnE wr w.heap.size wr.heap.size v (es.take k)) ∧ Hid (Below w.heap.size w wr)) (fun _ i _ => n - (intOf i).toNat)
 case atStart => exact ⟨0, Nat.zero_le _, rfl, hid (OwnE.nil _ _ _), hid (Below.refl _ _)⟩
 case round =>
  obtain ⟨k, hk, rfl, HO, HB⟩ := hrel
  by_cases hlt : k < n
  · have hlt' : (k : Int) < (n : Int) := by omega
    have hk0 : (0 : Int) ≤ (k : Int) := by omega
    have hkl : k < es.length := by rw [HN.out]; exact hlt
    obtain ⟨b, off, a1, c1, rfl, bx0, r0, _, _, hf⟩ := HR.out.at hkl
    have HT := hid (take_snocE es k hkl)
    have hmz := HM.out k
    have bx := bx0.below HB.out qN
    have HR0 := hid (r0.below HB.out qN)
    have HLT := hid (show (es.take k).length = k by rw [List.length_take]; omega)
    generalize es.getD k en0 = e at *
    have hst := fun w a m => run_store Tryz.prog w a (.float .f64 e.F) m rfl
    have HBX := hid (Below.alloc1 wr (.cells #[.int .i64 e.K, .int .i64 e.N, .float .f64 e.F, .slice a1 e.Z.length c1, .int .i64 e.id] 48))
    have HR5 := hid (heap_alloc_new wr (.cells #[.int .i64 e.K, .int .i64 e.N, .float .f64 e.F, .slice a1 e.Z.length c1, .int .i64 e.id] 48))
    have HZ5 := hid (alloc_size wr (.cells #[.int .i64 e.K, .int .i64 e.N, .float .f64 e.F, .slice a1 e.Z.length c1, .int .i64 e.id] 48))
    obtain ⟨z0, z1, z2, z3, z4⟩ := bx
    clear r0 bx0 hkl
    go_wp2_with fail
    clear z0 z1 z2 z3 z4
    generalize wr.alloc (.cells #[.int .i64 e.K, .int .i64 e.N, .float .f64 e.F, .slice a1 e.Z.length c1, .int .i64 e.id] 48) = V at *
    obtain ⟨p5, hp5⟩ : ∃ p5, wr.heap.size = p5 := ⟨_, rfl⟩
    have HP5 := hid hp5
    rw [hp5] at HR5 HZ5
    try simp only [hp5]
    clear hp5
    refine (bytes_clone c1 (HR0.out.below HBX.out qN) hmz).mono ?_
    rintro e9 w1 ⟨v, rfl, o1, b1⟩
    obtain ⟨a2, c2, e1⟩ := own_sl o1
    subst e1
    have HR6 := hid ((b1.block p5 (by have := HZ5.out; omega)).trans HR5.out)
    have HR7 := hid (show (w1.setCell ⟨p5, 3, none⟩ (.slice a2 e.Z.length c2)).heap[p5]? = some (.cells #[.int .i64 e.K, .int .i64 e.N, .float .f64 e.F, .slice a2 e.Z.length c2, .int .i64 e.id] 48) by rw [heap_setCell_same _ _ _ _ _ _ HR6.out]; rfl)
    have HBs := hid (show Below wr.heap.size wr (w1.setCell ⟨p5, 3, none⟩ (.slice a2 e.Z.length c2)) from (HBX.out.trans (b1.mono HBX.out.size)).setCell (p := ⟨p5, 3, none⟩) (by have := HP5.out; simp only; omega) _)
    have HO1 := hid (show (w1.setCell ⟨p5, 3, none⟩ (.slice a2 e.Z.length c2)).ownsRow V.heap.size 5 1 (.slice a2 e.Z.length c2) e.Z.length (bys e.Z) from owns_agree (lo := V.heap.size) (hi := w1.heap.size) o1 (fun j j1 j2 => heap_set_ne _ p5 3 j _ (by have := HZ5.out; omega)) (fun g hg => o1.lt g hg))
    have hBA := Below.alloc1 (w1.setCell ⟨p5, 3, none⟩ (.slice a2 e.Z.length c2)) (.cells #[.int .i64 e.K, .int .i64 e.N, .float .f64 e.F, .slice a2 e.Z.length c2, .int .i64 e.id] 48)
    have HRA := hid (heap_alloc_new (w1.setCell ⟨p5, 3, none⟩ (.slice a2 e.Z.length c2)) (.cells #[.int .i64 e.K, .int .i64 e.N, .float .f64 e.F, .slice a2 e.Z.length c2, .int .i64 e.id] 48))
    have hsz : (w1.setCell ⟨p5, 3, none⟩ (.slice a2 e.Z.length c2)).heap.size = w1.heap.size := set_size _ _ _
    rw [hsz] at HRA
    have HBA := hid (HBs.out.trans (hBA.mono HBs.out.size))
    have HO2 := hid (HO1.out.alloc (.cells #[.int .i64 e.K, .int .i64 e.N, .float .f64 e.F, .slice a2 e.Z.length c2, .int .i64 e.id] 48))
    have HOA := hid (HO.out.below HBA.out qN)
    have HSA := hid (show w1.heap.size < ((w1.setCell ⟨p5, 3, none⟩ (.slice a2 e.Z.length c2)).alloc (.cells #[.int .i64 e.K, .int .i64 e.N, .float .f64 e.F, .slice a2 e.Z.length c2, .int .i64 e.id] 48)).heap.size ∧ V.heap.size ≤ w1.heap.size ∧ wr.heap.size < V.heap.size by rw [alloc_size, hsz]; have := b1.size; have := HZ5.out; have := HP5.out; omega)
    have HBw := hid (HB.out.trans (HBA.out.mono HB.out.size))
    have HBD := hid HR0.out.bd
    obtain ⟨xs, oR, hB7⟩ := HOA.out.own
    have HF7 := hid HOA.out.fl
    rw [HLT.out] at oR
    obtain ⟨a3, c3, e3⟩ := own_sl oR
    subst e3
    have HOR := hid oR
    have HB7 := hid hB7
    have q0 := cell_of_row _ _ 0 _ _ _ HR6.out
    have q1 := cell_of_row _ _ 1 _ _ _ HR6.out
    have q2 := cell_of_row _ _ 2 _ _ _ HR6.out
    have q3 := cell_of_row _ _ 3 _ _ _ HR6.out
    have q4 := cell_of_row _ _ 4 _ _ _ HR6.out
    have fz : w1.frozen? ⟨p5, 3, none⟩ = false := frozen_of_row _ _ _ _ _ HR6.out
    have HFr := hid (show ∀ j, (⟨p5, j, none⟩ : Addr).block = p5 from fun _ => rfl)
    have hpz : p5 ≠ w1.heap.size := by have := HSA.out; have := HZ5.out; omega
    clear o1 b1 hBA oR hB7 hsz HO HOA
    go_wp2_with (at_builtin; refine wpList_append_row rfl _ _ 52 rfl w.heap.size 48 i0 _ 5 56 Tryz.underlying52 hi hz0 hz1 hz2 rfl (by decide) _ _ _ rfl HOR.out (some ⟨w1.heap.size, 0, none⟩) 1 1 [.int .i64 e.K, .int .i64 e.N, .float .f64 e.F, .slice a2 e.Z.length c2, .int .i64 e.id] rfl rfl (.inr ⟨_, rfl, World.news_of_block HRA.out⟩) (fun e => by cases e) ?g2 (by unfold maxLen; omega) (by omega) HBw.out.size ?_)
    case g2 => intro u hu; simp only [List.mem_cons, List.not_mem_nil, or_false] at hu; rcases hu with rfl | rfl | rfl | rfl | rfl <;> rfl
    intro a8 c8 w8 o8 g8
    have HN8 := hid (show OwnE w8 w.heap.size w8.heap.size (.slice a8 (k + 1) c8) (es.take (k + 1)) from by
     rw [HT.out]
     exact OwnE.push (mid := wr.heap.size) HOR.out HLT.out HB7.out HF7.out HB.out.size HBA.out.size (owns_lower HO2.out (by have := HSA.out; omega)) HBD.out hf o8 g8)
    have HB8 := hid (show Below w.heap.size w w8 from HBw.out.grown g8 HBw.out.size (fun r hr => (HOR.out.lt r hr).1))
    clear o8 g8 HOR q0 q1 q2 q3 q4
    go_wp2_with fail
    go_roundw
    case rel => exact ⟨k + 1, by omega, by go_num, HN8, HB8⟩
    case measure => simp [intOf]; omega
  · obtain rfl : k = n := by omega
    have hlt' : ¬ (k : Int) < (k : Int) := by omega
    obtain ⟨aA, cA, e1⟩ := HO.out.slice
    rw [show (es.take k).length = k by rw [List.length_take, HN.out]; omega] at e1
    subst e1
    have HE := hid (show es.take k = es from List.take_of_length_le (by rw [HN.out]; exact Nat.le_refl _))
    go_wp2_with fail
    go_ret
    exact ⟨_, rfl, by rw [← HE.out]; exact HO.out, HB.out⟩
end Go.Proofs.YtlkoghdajpbffaaGreat
