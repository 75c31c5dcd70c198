/- The specification's look at a tree, its TreeOk and TreeHeight. Conditions: texts of at most 2^21 bytes. -/
import Derived.Test.YtphmlndkjgldkaaKy11
import Derived.Test.YtphmlndkjgldkaaKu11
namespace Go.Proofs.Ytphmlndkjgldkaa
open Go.RowKit
set_option maxRecDepth 100000
theorem Try.infoBl : (Try.prog.info? 4).map (fun i => (i.zero, i.size, i.bytes)) = some (some (.bool false), 1, 1) := by kernel_rfl
def rowB (N : Nat) : Obj := .cells (List.replicate N (.bool false)).toArray 4
theorem mkB (N : Nat) (hN : N ≤ 300) (W : World) : (Instr.makeSlice 102 (.int .i64 (N : Int)) (.int .i64 (N : Int))).run Try.prog W = .ok (.slice (some ⟨W.heap.size, 0, none⟩) N N) (W.alloc (rowB N)) := by
 obtain ⟨i0, hi, hz0, hz1, hz2⟩ := info_parts Try.infoBl
 have := run_make (P := Try.prog) W 102 4 i0 (.bool false) Try.underlying102 hi hz0 .i64 .i64 (N : Int) (N : Int) (by omega) (by omega) (by rw [hz2]; omega) (by omega)
 rw [this, hz1, Nat.mul_one, Int.toNat_natCast]
 show Result.ok _ (W.alloc (.cells (madeCells #[.bool false] N) _)) = _
 rw [made1]
 rfl
def LookP (w w' : World) (ns : List Nd) (N : Nat) (root : Int) (e : Ending) : Prop :=
 ∃ p, e = .returned (.tuple #[.pointer (some ⟨p, 0, none⟩), .bool (treeOk ns root)]) ∧ (treeOk ns root = true → ∃ r av, WK w w' p r N w.heap.size (lookS ns root) av)
set_option maxHeartbeats 6400000 in
theorem spec_look {ad : Option Addr} {N : Nat} (cap : Nat) (root : Int) {ns : List Nd} {w : World} (hR : ReadsD w ad ns) (hns : ns.length = N) (hm : ∀ i j, ((ns.getD i nd0).es.getD j en0).Z.length ≤ 2097152) :
 Calls Try.prog 68 #[.agg #[.slice ad N cap, .int .i64 root]] w fun e w' => LookP w w' ns N root e ∧ Below w.heap.size w w' := by
 have HT := hid (show treeOk ns root = (decide (1 ≤ ns.length ∧ ns.length ≤ 300) && ((lookS ns root).seen.all id && !(lookS ns root).wrong)) from rfl)
 rw [hns] at HT
 have hB := two w (.cells #[.slice ad N cap, .int .i64 root] 26) (.cells #[.slice none 0 0, .int .i64 0, .bool false, .slice none 0 0] 104)
 obtain ⟨R1, R2, hz⟩ := two_rows11 w (.cells #[.slice ad N cap, .int .i64 root] 26) (.cells #[.slice none 0 0, .int .i64 0, .bool false, .slice none 0 0] 104)
 have HB := hid hB
 have HR1 := hid R1
 have HR2 := hid R2
 have HZ := hid hz
 have HRD := hid hR
 have HM := hid hm
 have HNs := hid hns
 clear hB R1 R2 hz hR hm hns
 go_enter Try.func68, Try.ntmps68
 go_upto_region 2 with fail
 generalize (w.alloc (.cells #[.slice ad N cap, .int .i64 root] 26)).alloc (.cells #[.slice none 0 0, .int .i64 0, .bool false, .slice none 0 0] 104) = V at *
 obtain ⟨p1, hp1⟩ : ∃ p1, w.heap.size = p1 := ⟨_, rfl⟩
 obtain ⟨p, hp⟩ : ∃ p, w.heap.size + 1 = p := ⟨_, rfl⟩
 have HP := hid (show w.heap.size = p1 ∧ w.heap.size + 1 = p ∧ V.heap.size = w.heap.size + 2 from ⟨hp1, hp, HZ.out⟩)
 rw [hp] at HR2
 rw [hp1] at HR1
 rw [hp1] at hp
 try simp only [hp1]
 try simp only [hp]
 clear hp hp1
 have k0 : V.cell? ⟨p1, 0, none⟩ = some (.slice ad N cap) := by rw [cell_of_row _ _ _ _ _ _ HR1.out]; rfl
 have k1 : V.cell? ⟨p1, 1, none⟩ = some (.int .i64 root) := by rw [cell_of_row _ _ _ _ _ _ HR1.out]; rfl
 by_cases h1 : N < 1
 ·
  have h1' : (N : Int) < 1 := by omega
  rw [decide_eq_false (by omega), Bool.false_and] at HT
  go_wp2_with fail
  go_ret2
  exact ⟨⟨p, by rw [HT.out]; rfl, fun e => absurd (HT.out.symm.trans e) (by simp)⟩, HB.out⟩
 have h1' : ¬ (N : Int) < 1 := by omega
 by_cases h2 : 300 < N
 ·
  have h2' : (300 : Int) < (N : Int) := by omega
  rw [decide_eq_false (by omega), Bool.false_and] at HT
  go_wp2_with fail
  go_ret2
  exact ⟨⟨p, by rw [HT.out]; rfl, fun e => absurd (HT.out.symm.trans e) (by simp)⟩, HB.out⟩
 have h2' : ¬ (300 : Int) < (N : Int) := by omega
 rw [decide_eq_true (by omega), Bool.true_and] at HT
 have hN3 : N ≤ 300 := by omega
 have hmk := mkB N hN3
 have kp0 : V.cell? ⟨p, 0, none⟩ = some (.slice none 0 0) := by rw [cell_of_row _ _ _ _ _ _ HR2.out]; rfl
 have fp0 : V.frozen? ⟨p, 0, none⟩ = false := frozen_of_row _ _ _ _ _ HR2.out
 have fp1 : (V.alloc (rowB N)).frozen? ⟨p, 0, none⟩ = false := frozen_of_row _ _ _ _ _ (((Below.alloc1 V (rowB N)).block p (by have := HP.out; omega)).trans HR2.out)
 have cp1 : (V.alloc (rowB N)).cell? ⟨p, 0, none⟩ = some (.slice none 0 0) := by rw [cell_of_row _ _ _ _ _ _ (((Below.alloc1 V (rowB N)).block p (by have := HP.out; omega)).trans HR2.out)]; rfl
 have hpz := HP.out
 have hpr : p ≠ V.heap.size := by omega
 have hp1r : p1 ≠ V.heap.size := by omega
 have hp1p : p1 ≠ p := by omega
 have hb1 := Below.alloc1 V (rowB N)
 have hRv := (hb1.block p (by omega)).trans HR2.out
 have HRr := hid (show ((V.alloc (rowB N)).setCell ⟨p, 0, none⟩ (.slice (some ⟨V.heap.size, 0, none⟩) N N)).heap[V.heap.size]? = some (rowB N) from (heap_set_ne _ p 0 V.heap.size _ (fun e => hpr e.symm)).trans (heap_alloc_new V (rowB N)))
 have HRp := hid (show ((V.alloc (rowB N)).setCell ⟨p, 0, none⟩ (.slice (some ⟨V.heap.size, 0, none⟩) N N)).heap[p]? = some (.cells #[.slice (some ⟨V.heap.size, 0, none⟩) N N, .int .i64 0, .bool false, .slice none 0 0] 104) from by rw [heap_setCell_same _ _ _ _ _ _ hRv]; rfl)
 have HR1' := hid (show ((V.alloc (rowB N)).setCell ⟨p, 0, none⟩ (.slice (some ⟨V.heap.size, 0, none⟩) N N)).heap[p1]? = some (.cells #[.slice ad N cap, .int .i64 root] 26) from (heap_set_ne _ p 0 p1 _ hp1p).trans ((hb1.block p1 (by omega)).trans HR1.out))
 have HBW := hid (show Below w.heap.size w ((V.alloc (rowB N)).setCell ⟨p, 0, none⟩ (.slice (some ⟨V.heap.size, 0, none⟩) N N)) from (HB.out.trans (hb1.mono (by omega))).setCell (p := ⟨p, 0, none⟩) (by simp only; omega) _)
 have HZW := hid (show ((V.alloc (rowB N)).setCell ⟨p, 0, none⟩ (.slice (some ⟨V.heap.size, 0, none⟩) N N)).heap.size = V.heap.size + 1 from by rw [set_size, alloc_size])
 have e0 : ((V.alloc (rowB N)).setCell ⟨p, 0, none⟩ (.slice (some ⟨V.heap.size, 0, none⟩) N N)).cell? ⟨p1, 0, none⟩ = some (.slice ad N cap) := by rw [cell_of_row _ _ _ _ _ _ HR1'.out]; rfl
 have e1 : ((V.alloc (rowB N)).setCell ⟨p, 0, none⟩ (.slice (some ⟨V.heap.size, 0, none⟩) N N)).cell? ⟨p1, 1, none⟩ = some (.int .i64 root) := by rw [cell_of_row _ _ _ _ _ _ HR1'.out]; rfl
 clear hb1 hpz h1 h2 hRv
 go_upto_region 5 with fail
 generalize ((V.alloc (rowB N)).setCell ⟨p, 0, none⟩ (.slice (some ⟨V.heap.size, 0, none⟩) N N)) = W at *
 obtain ⟨r, hr⟩ : ∃ r, V.heap.size = r := ⟨_, rfl⟩
 have HPr := hid (show w.heap.size = p1 ∧ w.heap.size + 1 = p ∧ r = w.heap.size + 2 ∧ W.heap.size = r + 1 ∧ p ≠ r by have := HP.out; have := HZW.out; omega)
 rw [hr] at HRr HRp
 try simp only [hr]
 clear hr kp0 fp0 fp1 cp1 hmk k0 k1 hpr hp1r hp1p
 have HWK := hid (show WK w W p r N w.heap.size (st0 N) (.slice none 0 0) from ⟨HRp.out, by rw [HRr.out]; simp [rowB, st0], by simp [st0], AllR.nil _ _ _, (fun b hb => by cases hb), HPr.out.2.2.2.2⟩)
 go_wp2_with fail
 refine (spec_go cap root HNs.out HRD.out HM.out hN3 p r w.heap.size (by have := HPr.out; omega) (by have := HPr.out; omega) (Nat.le_refl _) (N + 1) (st0 N) root 1 none none (.slice none 0 0) (.slice none 0 0) (.slice none 0 0) W (by simp only [st0]; rw [unseen_rep]; omega) (by omega) (by omega) (by simp only [st0]; rw [unseen_rep]; simp; omega) HBW.out.size HBW.out HWK.out rfl rfl (fun b hb => by cases hb) (fun b hb => by cases hb)).mono ?_
 rintro e w2 ⟨rfl, av, hwk, hst⟩
 have HL := hid (show lookS ns root = goS ns (N + 1) (st0 N) root 1 none none by unfold lookS; rw [HNs.out])
 rw [← HL.out] at hwk
 have HW2 := hid hwk
 have HB2 := hid (HBW.out.trans (hst.below HBW.out.size (by have := HPr.out; omega) (by have := HPr.out; omega) (fun b hb => by cases hb)))
 obtain ⟨R, hRR⟩ : ∃ R, lookS ns root = R := ⟨_, rfl⟩
 rw [hRR] at HT HW2
 have HRR := hid hRR
 have kp : w2.cell? ⟨p, 0, none⟩ = some (.slice (some ⟨r, 0, none⟩) N N) := by rw [cell_of_row _ _ _ _ _ _ HW2.out.box]; rfl
 have kw : w2.cell? ⟨p, 2, none⟩ = some (.bool R.wrong) := by rw [cell_of_row _ _ _ _ _ _ HW2.out.box]; rfl
 clear hwk hst hRR HL e0 e1 HWK
 go_wp2_with fail
 go_loopw [5] (fun i wr => ∃ kk : Nat, kk ≤ N ∧ i = .int .i64 kk ∧ Hid (∀ j, j < kk → R.seen.getD j true = true) ∧ wr = w2) (fun i _ => N - (intOf i).toNat)
 case atStart => exact ⟨0, Nat.zero_le _, rfl, hid (fun j hj => absurd hj (Nat.not_lt_zero _)), rfl⟩
 case round =>
  obtain ⟨kk, hkk, rfl, HA, rfl⟩ := hrel
  by_cases hlt : kk < N
  ·
   have hlt' : (kk : Int) < (N : Int) := by omega
   have hk0 : (0 : Int) ≤ (kk : Int) := by omega
   have cs := HW2.out.seen_at hlt
   obtain ⟨SB, hSB⟩ : ∃ SB, R.seen.getD kk true = SB := ⟨_, rfl⟩
   rw [hSB] at cs
   have HSB := hid hSB
   clear hSB
   cases SB with
   | false =>
    replace HT := hid (show treeOk ns root = false from by
     rw [HT.out, show R.seen.all id = false from List.all_eq_false.2 ⟨false, ?_, by simp⟩, Bool.false_and]
     have hl : kk < R.seen.length := by rw [HW2.out.len]; exact hlt
     have := HSB.out
     rw [List.getD_eq_getElem?_getD, List.getElem?_eq_getElem hl, Option.getD_some] at this
     rw [← this]; exact List.getElem_mem hl)
    go_wp2_with fail
    go_ret2
    exact ⟨⟨p, by rw [HT.out]; rfl, fun e => absurd (HT.out.symm.trans e) (by simp)⟩, HB2.out⟩
   | true =>
    go_wp2_with fail
    go_roundw
    case rel => exact ⟨kk + 1, by omega, by go_num, hid (fun j hj => by by_cases q : j = kk; exact q ▸ HSB.out; exact HA.out j (by omega)), by trivial⟩
    case measure => simp [intOf]; omega
  ·
   obtain rfl : kk = N := by omega
   have hlt' : ¬ (kk : Int) < (kk : Int) := by omega
   have HAll := hid (show R.seen.all id = true from List.all_eq_true.2 (fun b hb => by
    obtain ⟨j, hj, rfl⟩ := List.mem_iff_getElem.1 hb
    have := HA.out j (by rw [← HW2.out.len]; exact hj)
    rw [List.getD_eq_getElem?_getD, List.getElem?_eq_getElem hj, Option.getD_some] at this
    exact this))
   replace HT := hid (show treeOk ns root = !R.wrong by rw [HT.out, HAll.out, Bool.true_and])
   obtain ⟨WR, hWR⟩ : ∃ WR, R.wrong = WR := ⟨_, rfl⟩
   rw [hWR] at kw HT
   have HWR := hid hWR
   clear hWR
   go_upto_region 11 with fail
   have hdr := (Still.drew wr).below wr.heap.size
   refine region_K 99 (fun W => W.cell? ⟨p, 2, none⟩ = some (.bool WR)) (by kernel_rfl) ?_ (fun hHeld => ?_)
   · exact ((Still.drew wr).cell _).trans kw
   have HWd := hid (HW2.out.below hdr)
   have HBd := hid (HB2.out.trans (hdr.mono HB2.out.size))
   clear kp kw hdr
   generalize wr.drew = u0 at *
   refine tkA (i := 0) (v := ?v1) rfl hHeld ?hy1 (some 49) rfl ?rest1
   case hy1 => (intro W hSw; have x2 : W.cell? ⟨p, 2, none⟩ = some (.bool WR) := hSw; go_simp; (try with_reducible rfl))
   try simp only [Act.put, List.setIfInBounds_toArray, List.set_cons_succ, List.set_cons_zero]
   refine tkA (i := 1) (v := ?v2) rfl hHeld ?hy2 (some 50) rfl ?rest2
   case hy2 => (intro W hSw; have x2 : W.cell? ⟨p, 2, none⟩ = some (.bool WR) := hSw; go_simp; (try with_reducible rfl))
   try simp only [Act.put, List.setIfInBounds_toArray, List.set_cons_succ, List.set_cons_zero]
   refine tkA (i := 2) (v := ?v3) rfl hHeld ?hy3 (some 51) rfl ?rest3
   case hy3 => (intro W hSw; have x2 : W.cell? ⟨p, 2, none⟩ = some (.bool WR) := hSw; go_simp; (try with_reducible rfl))
   try simp only [Act.put, List.setIfInBounds_toArray, List.set_cons_succ, List.set_cons_zero]
   refine tkA (i := 3) (v := ?v4) rfl hHeld ?hy4 (some 52) rfl ?rest4
   case hy4 => (intro W hSw; have x2 : W.cell? ⟨p, 2, none⟩ = some (.bool WR) := hSw; go_simp; (try with_reducible rfl))
   try simp only [Act.put, List.setIfInBounds_toArray, List.set_cons_succ, List.set_cons_zero]
   refine tkA (i := 4) (v := ?v5) rfl hHeld ?hy5 (some 53) rfl ?rest5
   case hy5 => (intro W hSw; have x2 : W.cell? ⟨p, 2, none⟩ = some (.bool WR) := hSw; go_simp; (try with_reducible rfl))
   try simp only [Act.put, List.setIfInBounds_toArray, List.set_cons_succ, List.set_cons_zero]
   refine tkA (i := 5) (v := ?v6) rfl hHeld ?hy6 (some 54) rfl ?rest6
   case hy6 => (intro W hSw; have x2 : W.cell? ⟨p, 2, none⟩ = some (.bool WR) := hSw; go_simp; (try with_reducible rfl))
   try simp only [Act.put, List.setIfInBounds_toArray, List.set_cons_succ, List.set_cons_zero]
   refine tkA (i := 6) (v := ?v7) rfl hHeld ?hy7 (some 2) rfl ?rest7
   case hy7 => (intro W hSw; have x2 : W.cell? ⟨p, 2, none⟩ = some (.bool WR) := hSw; go_simp; (try with_reducible rfl))
   try simp only [Act.put, List.setIfInBounds_toArray, List.set_cons_succ, List.set_cons_zero]
   refine tkA (i := 7) (v := ?v8) rfl hHeld ?hy8 (some 3) rfl ?rest8
   case hy8 => (intro W hSw; have x2 : W.cell? ⟨p, 2, none⟩ = some (.bool WR) := hSw; go_simp; (try with_reducible rfl))
   try simp only [Act.put, List.setIfInBounds_toArray, List.set_cons_succ, List.set_cons_zero]
   refine anyK_done (by kernel_rfl) ?_ _
   clear hHeld
   go_wp2_with fail
   go_ret2
   exact ⟨⟨p, by rw [HT.out]; rfl, fun _ => ⟨r, av, by rw [HRR.out]; exact HWd.out⟩⟩, HBd.out⟩
set_option maxHeartbeats 1600000 in
theorem spec_TreeOk {ad : Option Addr} {N : Nat} (cap : Nat) (root : Int) {ns : List Nd} {w : World} (hR : ReadsD w ad ns) (hns : ns.length = N) (hm : ∀ i j, ((ns.getD i nd0).es.getD j en0).Z.length ≤ 2097152) :
 Calls Try.prog 31 #[.agg #[.slice ad N cap, .int .i64 root]] w fun e w' => e = .returned (.bool (treeOk ns root)) ∧ Below w.heap.size w w' := by
 have HB := hid (Below.alloc1 w (.cells #[.slice ad N cap, .int .i64 root] 26))
 have HR := hid (hR.below HB.out (Nat.le_refl _))
 have HM := hid hm
 have HNs := hid hns
 have hR4 := heap_alloc_new w (.cells #[.slice ad N cap, .int .i64 root] 26)
 have k0 : (w.alloc (.cells #[.slice ad N cap, .int .i64 root] 26)).cell? ⟨w.heap.size, 0, none⟩ = some (.slice ad N cap) := by rw [cell_of_row _ _ _ _ _ _ hR4]; rfl
 have k1 : (w.alloc (.cells #[.slice ad N cap, .int .i64 root] 26)).cell? ⟨w.heap.size, 1, none⟩ = some (.int .i64 root) := by rw [cell_of_row _ _ _ _ _ _ hR4]; rfl
 clear hR4 hR hm hns
 go_enter Try.func31, Try.ntmps31
 go_wp2_with fail
 generalize w.alloc (.cells #[.slice ad N cap, .int .i64 root] 26) = V at *
 refine (spec_look cap root HR.out HNs.out HM.out).mono ?_
 rintro e w1 ⟨⟨p, rfl, hp⟩, b⟩
 have HBw := hid (HB.out.trans (b.mono HB.out.size))
 clear b k0 k1
 obtain ⟨TB, hTB⟩ : ∃ TB, treeOk ns root = TB := ⟨_, rfl⟩
 rw [hTB]
 have HTB := hid hTB
 clear hp hTB
 go_wp2_with fail
 go_ret
 exact ⟨by rw [HTB.out]; rfl, HBw.out⟩
end Go.Proofs.Ytphmlndkjgldkaa
