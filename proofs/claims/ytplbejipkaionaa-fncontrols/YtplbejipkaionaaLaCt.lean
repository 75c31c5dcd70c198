/- FnControls' walk: for every code the law answers true and writes nothing that was there. Conditions: none (codes of more than 2^20 bytes are let pass by the law itself). -/
import Derived.Test.YtplbejipkaionaaCg17
import Derived.Test.YtplbejipkaionaaCi17
import Derived.Deep.RegionWith
namespace Go.Proofs.Ytplbejipkaionaa
open Go.RowKit
set_option maxRecDepth 100000

theorem own_le17 {w : World} {base m c : Nat} {a : Option Addr} {xs : List Value} (h : w.ownsRow base 5 1 (.slice a m c) m xs) : m ≤ c := by
  rcases h.2 with ⟨e, h0⟩ | ⟨g, cap, cur, e, _, _, hnc, _⟩
  · omega
  · cases e; exact hnc
theorem at_three {ad : Option Addr} {nn : Nat} (cap : Nat) {zs : List Int} {w : World} (r : Reads w ad nn zs) (hn : nn ≤ 2097152) :
    Calls Try.prog 11 #[.slice ad nn cap, .int .i64 3] w fun e w' => ∃ x : Int, e = .returned (.int .i64 x) ∧ 0 ≤ x ∧ w' = w :=
  (law_at cap r hn 3 (by omega)).mono fun e w' ⟨h1, x, h2⟩ => ⟨x, h2, by omega, h1⟩
theorem bys_one17 (zs : List Int) : ∀ v ∈ bys zs, v.oneCell' = true := by
  intro v hv
  obtain ⟨x, -, rfl⟩ := List.mem_map.1 hv
  rfl
theorem bd_set17 {zs : List Int} (h : ∀ i, 0 ≤ zs.getD i 0 ∧ zs.getD i 0 ≤ 255) (i : Nat) (c : Int) (h0 : 0 ≤ c) (h1 : c ≤ 255) : ∀ j, 0 ≤ (zs.set i c).getD j 0 ∧ (zs.set i c).getD j 0 ≤ 255 := by
  intro j
  rw [List.getD_eq_getElem?_getD, List.getElem?_set]
  split
  · split
    · exact ⟨h0, h1⟩
    · simp
  · rw [← List.getD_eq_getElem?_getD]; exact h j
theorem bys_set17 (zs : List Int) (i : Nat) (c : Int) : (bys zs).set i (.int .u8 c) = bys (zs.set i c) := by unfold bys; rw [List.map_set]
theorem below_box17 {u : World} {o : Obj} (b : Below u.heap.size u (u.alloc o)) (R : Array Value) : Below u.heap.size u ((u.alloc o).setRow u.heap.size R) := below_setRow b (Nat.le_refl _) R

set_option maxHeartbeats 12800000 in
theorem lawControls {ad : Option Addr} {n : Nat} (cap : Nat) {zs : List Int} {w : World} (h : Reads w ad n zs) :
    Calls Try.prog 3 #[.slice ad n cap] w fun e w' => e = .returned (.bool true) ∧ Below w.heap.size w w' := by
  obtain ⟨i0, hi, hz0, hz1, hz2⟩ := info_parts Try.info5
  have HL := hid h
  clear h
  go_enter Try.func3, Try.ntmps3
  go_wp2_with fail
  refine (law_big17 ad n cap _).mono ?_
  rintro e w1 ⟨rfl, e1⟩
  subst w1
  by_cases hbig : (1048576 : Int) < (n : Int)
  · rw [decide_eq_true hbig]
    go_wp2_with fail
    go_ret
    exact ⟨rfl, Below.refl _ _⟩
  rw [decide_eq_false hbig]
  have hn : n ≤ 2097152 := by omega
  clear hbig
  go_wp2_with fail
  refine (drawControl cap HL.out hn).mono ?_
  rintro e w1 ⟨c, rfl, b1⟩
  obtain ⟨sq, ar, ls, nx, pg⟩ := c
  unfold cellsC
  simp only
  replace HL := hid (HL.out.below b1 (Nat.le_refl _))
  have HB := hid b1
  clear b1
  have HA := hid (heap_alloc_new w1 (.cells #[.int .i64 0, .int .i64 0, .int .i64 0, .int .i64 0, .int .i64 0] 25))
  have R1 := hid (setRow_heap (w1.alloc (.cells #[.int .i64 0, .int .i64 0, .int .i64 0, .int .i64 0, .int .i64 0] 25)) w1.heap.size _ #[.int .i64 sq, .int .i64 ar, .int .i64 ls, .int .i64 nx, .int .i64 pg] _ _ HA.out)
  have bX := below_box17 (Below.alloc1 w1 (.cells #[.int .i64 0, .int .i64 0, .int .i64 0, .int .i64 0, .int .i64 0] 25)) #[.int .i64 sq, .int .i64 ar, .int .i64 ls, .int .i64 nx, .int .i64 pg]
  go_wp2_with (first
    | (refine wpList_store_row rfl 25 (.tmp 3) (.tmp 14) rfl w1.heap.size #[.int .i64 sq, .int .i64 ar, .int .i64 ls, .int .i64 nx, .int .i64 pg] rfl rfl 25 _ HA.out ?s7 ?s8 ?s9 ?_)
    | (refine wpList_load_row rfl 25 (.tmp 3) rfl w1.heap.size rfl 25 _ (0, 0) _ R1.out Try.underlying25 rfl size_ct ?_))
  case s7 => exact size_ct
  case s8 => rfl
  case s9 => simp [Value.oneCell']
  replace HL := hid (HL.out.below bX (Nat.le_refl _))
  replace HB := hid (HB.out.trans (bX.mono HB.out.size))
  obtain ⟨q, hq⟩ : ∃ q, w1.heap.size = q := ⟨_, rfl⟩
  simp only [hq] at R1 HL HB ⊢
  clear HA bX hq
  generalize (w1.alloc (.cells #[.int .i64 0, .int .i64 0, .int .i64 0, .int .i64 0, .int .i64 0] 25)).setRow q #[.int .i64 sq, .int .i64 ar, .int .i64 ls, .int .i64 nx, .int .i64 pg] = u1 at *
  refine (impl_ControlBytes sq ar ls nx pg _).mono ?_
  rintro e w2 ⟨v, rfl, o2, b2⟩
  replace R1 := hid (RowC.mk ((b2.block q (Array.getElem?_eq_some_iff.1 R1.out).1).trans R1.out))
  replace HL := hid (HL.out.below b2 (Nat.le_refl _))
  replace HB := hid (HB.out.trans (b2.mono HB.out.size))
  have O2 := hid o2
  obtain ⟨a2, c2, rfl⟩ := own_sl o2
  clear o2 b2
  go_wp2_with (refine wpList_load_row rfl 25 (.tmp 3) rfl q rfl 25 _ (0, 0) _ R1.out.h Try.underlying25 rfl size_ct ?_)
  refine (spec_ControlBytes sq ar ls nx pg _).mono ?_
  rintro e w3 ⟨v, rfl, o3, b3⟩
  obtain ⟨a3, c3, rfl⟩ := own_sl o3
  replace R1 := hid (R1.out.below b3 (Nat.le_refl _))
  replace HL := hid (HL.out.below b3 (Nat.le_refl _))
  replace HB := hid (HB.out.trans (b3.mono HB.out.size))
  by_cases hok : okC sq ar ls nx pg = true
  case neg =>
    have e0 : (ctlL sq ar ls nx pg).length = 0 := by unfold ctlL; rw [if_neg hok]; rfl
    rw [e0]
    clear o3 b3 O2
    go_wp2_with fail
    go_ret
    exact ⟨rfl, HB.out⟩
  obtain ⟨l64, -, -⟩ := ctl_back hok
  have hbd := (ctl_bd sq ar ls nx pg).2
  have hback := rd_back (c := ⟨sq, ar, ls, nx, pg⟩) hok
  have hhurt := fun i hi x hx hne => ctl_hurt (c := ⟨sq, ar, ls, nx, pg⟩) hok i hi x hx hne
  rw [show ctC ⟨sq, ar, ls, nx, pg⟩ = ctlL sq ar ls nx pg from rfl] at hback
  simp only [show ctC ⟨sq, ar, ls, nx, pg⟩ = ctlL sq ar ls nx pg from rfl] at hhurt
  clear o3
  have OB := owns_below b3 (Nat.le_refl _) O2.out
  obtain ⟨p2, c2', e2, rB⟩ := own_pos17 OB hbd (by omega)
  have hle := own_le17 O2.out
  obtain ⟨rfl, -, rfl⟩ := Value.slice.inj e2
  rw [l64] at rB hle ⊢
  have RB := hid rB
  have HBD := hid hbd
  have HBK := hid hback
  have HHT := hid hhurt
  clear O2 OB e2 rB b3 hbd hback hhurt
  generalize ctlL sq ar ls nx pg = Z at *
  go_wp2_with fail
  refine (impl_ControlRead c2 RB.out (by omega) hle).mono ?_
  rintro e w4 ⟨rfl, b4⟩
  rw [HBK.out.1, HBK.out.2]
  unfold cellsC
  simp only
  replace R1 := hid (R1.out.below b4 (Nat.le_refl _))
  replace HL := hid (HL.out.below b4 (Nat.le_refl _))
  replace RB := hid (RB.out.below b4 (Nat.le_refl _))
  replace HB := hid (HB.out.trans (b4.mono HB.out.size))
  clear b4
  have HA := hid (heap_alloc_new w4 (.cells #[.int .i64 0, .int .i64 0, .int .i64 0, .int .i64 0, .int .i64 0] 25))
  have R5 := hid (RowC.mk (setRow_heap (w4.alloc (.cells #[.int .i64 0, .int .i64 0, .int .i64 0, .int .i64 0, .int .i64 0] 25)) w4.heap.size _ #[.int .i64 sq, .int .i64 ar, .int .i64 ls, .int .i64 nx, .int .i64 pg] _ _ HA.out))
  have bX := below_box17 (Below.alloc1 w4 (.cells #[.int .i64 0, .int .i64 0, .int .i64 0, .int .i64 0, .int .i64 0] 25)) #[.int .i64 sq, .int .i64 ar, .int .i64 ls, .int .i64 nx, .int .i64 pg]
  go_wp2_with (refine wpList_store_row rfl 25 (.tmp 5) (.tmp 27) rfl w4.heap.size #[.int .i64 sq, .int .i64 ar, .int .i64 ls, .int .i64 nx, .int .i64 pg] rfl rfl 25 _ HA.out ?s7 ?s8 ?s9 ?_)
  case s7 => exact size_ct
  case s8 => rfl
  case s9 => simp [Value.oneCell']
  replace R1 := hid (R1.out.below bX (Nat.le_refl _))
  replace HL := hid (HL.out.below bX (Nat.le_refl _))
  replace RB := hid (RB.out.below bX (Nat.le_refl _))
  replace HB := hid (HB.out.trans (bX.mono HB.out.size))
  obtain ⟨q5, hq⟩ : ∃ q, w4.heap.size = q := ⟨_, rfl⟩
  simp only [hq] at R5 R1 HL RB HB ⊢
  clear HA bX hq
  generalize (w4.alloc (.cells #[.int .i64 0, .int .i64 0, .int .i64 0, .int .i64 0, .int .i64 0] 25)).setRow q5 #[.int .i64 sq, .int .i64 ar, .int .i64 ls, .int .i64 nx, .int .i64 pg] = u5 at *
  go_wp2_with fail
  refine (law_at cap HL.out hn 2 (by omega)).mono ?_
  rintro e w6 ⟨e6, x, rfl⟩
  subst w6
  go_wp2_with (at_builtin; refine wpList_append_own _ rfl (.tmp 32) (.tmp 33) 22 rfl u5.heap.size 5 i0 (.int .u8 0) 1 1 Try.underlying22 hi hz0 hz1 hz2 rfl (by decide) (.slice (some ⟨u5.heap.size, 0, none⟩) 0 0) 0 [] ?n0 (World.ownsRow_lit u5 #[] 0 (Nat.le_refl _) (Nat.zero_le _) rfl) ⟨p2, 0, none⟩ 64 c2 (bys Z) ?n1 ?n2 (RB.out.below ((Below.refl _ _).alloc (Nat.le_refl _) _) (Nat.le_refl _)).news (bys_one17 _) ?n4 ?n5 ?n6 ?_)
  case n0 => rfl
  case n1 => rfl
  case n2 => rw [bys_length, l64]
  case n4 => unfold maxLen; omega
  case n5 => omega
  case n6 => simp
  intro v13 w13 o13 g13 _
  have b13 : Below u5.heap.size u5 w13 := ((Below.refl _ _).alloc (Nat.le_refl _) _).grown g13 (by simp) (fun k hk => by simp [Value.ownBlock] at hk; omega)
  have l1 := (Array.getElem?_eq_some_iff.1 R1.out.h).1
  have l5 := (Array.getElem?_eq_some_iff.1 R5.out.h).1
  have B13 := HB.out.trans (b13.mono HB.out.size)
  obtain ⟨gH, capH, rfl, hgH, hcH⟩ : ∃ gH capH, v13 = .slice (some ⟨gH, 0, none⟩) 64 capH ∧ u5.heap.size ≤ gH ∧ 64 ≤ capH := by
    rcases o13.2 with ⟨_, e0⟩ | ⟨g', cap', _, e, hg', _, hc', _⟩
    · omega
    · exact ⟨g', cap', e, hg', hc'⟩
  have hzH : w.heap.size ≤ gH := Nat.le_trans HB.out.size hgH
  obtain ⟨i, hi', hi21⟩ : ∃ i : Nat, (x : Int) % 21 = (i : Int) ∧ i < 21 := ⟨x % 21, by omega, by omega⟩
  simp only [hi']
  clear hi'
  have hcell : w13.cell? ⟨gH, i, none⟩ = some (.int .u8 (Z.getD i 0)) := by
    rw [o13.cellAt i (by omega)]
    simp [bys, show i < Z.length by omega]
  have hfr : w13.frozen? ⟨gH, i, none⟩ = false := o13.frozenAt i
  have hx := HBD.out i
  have HS := hid (fun c => o13.stored i (.int .u8 c))
  have HH := hid (HHT.out i hi21)
  generalize Z.getD i 0 = y at hcell hx HH
  have H13 := hid (Still.reads (Still.drew w13) (HL.out.below b13 (Nat.le_refl _)))
  have Q1 := hid (R1.out.below b13 (Nat.le_refl _))
  have Q5 := hid (R5.out.below b13 (Nat.le_refl _))
  have N1 := hid (show gH ≠ q by omega)
  have N5 := hid (show gH ≠ q5 by omega)
  have ii0 : (0 : Int) ≤ (i : Int) := by omega
  have ii7 : (i : Int) < 64 := by omega
  have HB13 := hid B13
  clear g13 o13 b13 R1 R5 HL HB B13 l1 l5 HHT
  go_wp2_with fail
  go_region_with (go_at_call 11; refine (at_three cap H13.out hn).mono ?_; rintro e w14 ⟨y5, rfl, hy50, rfl⟩)
  all_goals
    go_wp2_with fail
    have hR := (HS.out ((y + 1 + y5 % 255) % 256)).1
    have hg := (HS.out ((y + 1 + y5 % 255) % 256)).2
    have hB : Below w.heap.size w (w13.setCell ⟨gH, i, none⟩ (.int .u8 ((y + 1 + y5 % 255) % 256))) := HB13.out.setCell hzH _
    rw [bys_set17] at hR
    have hH := HH.out ((y + 1 + y5 % 255) % 256) (by omega) (by omega)
    have hbS := bd_set17 HBD.out i ((y + 1 + y5 % 255) % 256) (by omega) (by omega)
    have rS := own_reads17 hR hbS
    have K1 := hid (RowC.mk ((heap_setCell_other w13 ⟨gH, i, none⟩ q (.int .u8 ((y + 1 + y5 % 255) % 256)) (fun e => N1.out e.symm)).trans Q1.out.h))
    have K5 := hid (RowC.mk ((heap_setCell_other w13 ⟨gH, i, none⟩ q5 (.int .u8 ((y + 1 + y5 % 255) % 256)) (fun e => N5.out e.symm)).trans Q5.out.h))
    clear hR HS HH H13 hcell hfr HB13 hg Q1 Q5
    generalize Z.set i ((y + 1 + y5 % 255) % 256) = Z2 at *
    generalize w13.setCell ⟨gH, i, none⟩ (.int .u8 ((y + 1 + y5 % 255) % 256)) = w15 at *
    refine (impl_ControlRead capH ((Still.drew w15).reads rS) (by omega) hcH).mono ?_
    rintro e w16 ⟨rfl, b16⟩
    rw [hH, rdC_no hH]
    unfold cellsC
    simp only
    have bY := (Below.alloc1 w16 (.cells #[.int .i64 0, .int .i64 0, .int .i64 0, .int .i64 0, .int .i64 0] 25))
    have HA := hid (heap_alloc_new w16 (.cells #[.int .i64 0, .int .i64 0, .int .i64 0, .int .i64 0, .int .i64 0] 25))
    have bZ := below_box17 bY #[.int .i64 0, .int .i64 0, .int .i64 0, .int .i64 0, .int .i64 0]
    have L1 := hid (((K1.out.below ((Still.drew w15).below _) (Nat.le_refl _)).below b16 (Nat.le_refl _)).below bZ (Nat.le_refl _))
    have L5 := hid (((K5.out.below ((Still.drew w15).below _) (Nat.le_refl _)).below b16 (Nat.le_refl _)).below bZ (Nat.le_refl _))
    have HBX := hid ((hB.trans ((Still.drew w15).below _)).trans (b16.mono hB.size))
    have HBZ := hid (HBX.out.trans (bZ.mono HBX.out.size))
    clear bY bZ hB b16 K1 K5 hH hbS rS
    have c0 : (sq == sq) = true := by simp
    have c1 : (ar == ar) = true := by simp
    have c3 : (ls == ls) = true := by simp
    have c4 : (nx == nx) = true := by simp
    have c5 : (pg == pg) = true := by simp
    go_wp2_with (first
      | (refine wpList_store_row rfl 25 (.tmp 9) (.tmp 52) rfl w16.heap.size #[.int .i64 0, .int .i64 0, .int .i64 0, .int .i64 0, .int .i64 0] rfl rfl 25 _ HA.out ?t7 ?t8 ?t9 ?_)
      | (refine BigFrame.wpList_want (by rfl) (fun _ hK => wp_load_row 25 (.tmp 5) rfl q5 rfl 25 _ (0, 0) _ L5.out.h Try.underlying25 rfl size_ct (hK _ _ ?_)))
      | (refine BigFrame.wpList_want (by rfl) (fun _ hK => wp_load_row 25 (.tmp 3) rfl q rfl 25 _ (0, 0) _ L1.out.h Try.underlying25 rfl size_ct (hK _ _ ?_))))
    case t7 => exact size_ct
    case t8 => rfl
    case t9 => simp [Value.oneCell']
    go_ret
    exact ⟨rfl, HBZ.out⟩
end Go.Proofs.Ytplbejipkaionaa
