/- The contract of the specification's HeapAt. Conditions: what the types say. -/
import Derived.Test.YtkfhfjghfadofaaGreatHg10
namespace Go.Proofs.YtkfhfjghfadofaaGreat
open Go.RowKit
set_option maxRecDepth 100000
def atH (ps : List Pg) (x y : Int) : Tu :=
 if okH ps = true ∧ (0 ≤ x ∧ x ≤ (ps.length : Int) - 1) ∧ (0 ≤ y ∧ y ≤ ((ps.getD x.toNat pg0).2.length : Int) - 1) then readT ((ps.getD x.toNat pg0).2.getD y.toNat []) else t0
theorem atH_no {ps : List Pg} {x y : Int} (h : ¬ (okH ps = true ∧ (0 ≤ x ∧ x ≤ (ps.length : Int) - 1) ∧ (0 ≤ y ∧ y ≤ ((ps.getD x.toNat pg0).2.length : Int) - 1))) : atH ps x y = t0 := by unfold atH; rw [if_neg h]
theorem atH_yes {ps : List Pg} {i k : Nat} (h : okH ps = true) (hi : i < ps.length) (hk : k < (ps.getD i pg0).2.length) : atH ps i k = readT ((ps.getD i pg0).2.getD k []) := by
 unfold atH; rw [if_pos ⟨h, ⟨by omega, by omega⟩, by rw [Int.toNat_natCast]; omega⟩, Int.toNat_natCast, Int.toNat_natCast]
structure AnsTu (t : Tu) (w : World) (e : Ending) (w' : World) : Prop where
 ex : ∃ (f1 : Nat) (v1 : Value) (f2 : Nat) (v2 : Value), e = .returned (.tuple #[.agg #[.int .i64 t.A, .int .i64 t.B, .int .i64 t.K, .int .i64 t.N, .float .f64 f1, v1, .int .i64 t.L, .int .i64 t.M, .float .f64 f2, v2], .bool t.ok]) ∧ f1 < 18446744073709551616 ∧ f2 < 18446744073709551616 ∧ Hid (Same t.F f1) ∧ Hid (Same t.H f2) ∧ w'.ownsRow w.heap.size 5 1 v1 t.Z.length (bys t.Z) ∧ w'.ownsRow w.heap.size 5 1 v2 t.Y.length (bys t.Y) ∧ Apart v1 v2 ∧ Below w.heap.size w w'
theorem AnsTu.zero {w w' : World} {e : Ending} (he : e = .returned (.tuple #[.agg #[.int .i64 0, .int .i64 0, .int .i64 0, .int .i64 0, .float .f64 0, .slice none 0 0, .int .i64 0, .int .i64 0, .float .f64 0, .slice none 0 0], .bool false])) (hb : Below w.heap.size w w') : AnsTu t0 w e w' :=
 ⟨⟨0, .slice none 0 0, 0, .slice none 0 0, he, by omega, by omega, hid (Same.refl _), hid (Same.refl _), World.ownsRow_nil _ _ _ _, World.ownsRow_nil _ _ _ _, .inl rfl, hb⟩⟩
theorem own_off10 {w : World} {base g : Nat} {v : Value} {n : Nat} {xs : List Value} (o : w.ownsRow base 5 1 v n xs) (hg : g < base) (cs : Array Value) : (w.setRow g cs).ownsRow base 5 1 v n xs :=
 owns_at o (fun k hk => setRow_other _ _ _ _ (by omega))
set_option maxHeartbeats 3200000 in
theorem spec_HeapAt {ad : Option Addr} {n : Nat} (cap : Nat) {ps : List Pg} {w : World} (h : ReadsG w ad ps) (hl : ps.length = n) (x y : Int) :
 Calls Tryz.prog 54 #[.agg #[.slice ad n cap], .int .i64 x, .int .i64 y] w fun e w' => AnsTu (atH ps x y) w e w' := by
 have hst0 := fun w a m => run_store Tryz.prog w a (.float .f64 0) m rfl
 obtain ⟨R1, R2, z⟩ := two_rows w (.cells #[.slice ad n cap] 26) (.cells #[.int .i64 0, .int .i64 0, .int .i64 0, .int .i64 0, .float .f64 0, .slice none 0 0, .int .i64 0, .int .i64 0, .float .f64 0, .slice none 0 0] 31)
 have HB := hid (two w (.cells #[.slice ad n cap] 26) (.cells #[.int .i64 0, .int .i64 0, .int .i64 0, .int .i64 0, .float .f64 0, .slice none 0 0, .int .i64 0, .int .i64 0, .float .f64 0, .slice none 0 0] 31))
 have HR := hid (h.below HB.out (Nat.le_refl _))
 have Q1 := hid R1
 have Q2 := hid R2
 have ZW := hid z
 clear h R1 R2 z
 go_enter Tryz.func54, Tryz.ntmps54
 go_wp2_with fail
 refine (spec_HeapOk cap HR.out hl).mono ?_
 rintro e W ⟨rfl, b⟩
 have hz := ZW.out
 have S1 := hid ((b.block w.heap.size (by omega)).trans Q1.out)
 have S2 := hid ((b.block (w.heap.size + 1) (by omega)).trans Q2.out)
 have hc0 : W.cell? ⟨w.heap.size, 0, none⟩ = some (.slice ad n cap) := by rw [cell_of_row _ _ _ _ _ _ S1.out]; rfl
 have HZW := hid (show w.heap.size + 2 ≤ W.heap.size by have := b.size; omega)
 replace HR := hid (HR.out.below b (Nat.le_refl _))
 replace HB := hid (HB.out.trans (b.mono HB.out.size))
 clear b hz Q1 Q2 ZW
 cases hok : okH ps with
 | false =>
  go_wp2_with (refine wpList_store_row rfl 31 (.tmp 6) (.tmp 33) rfl (w.heap.size + 1) #[.int .i64 0, .int .i64 0, .int .i64 0, .int .i64 0, .float .f64 0, .slice none 0 0, .int .i64 0, .int .i64 0, .float .f64 0, .slice none 0 0] rfl rfl 31 _ S2.out ?sa1 ?sa2 ?sa3 ?_)
  case sa1 => exact size_tup
  case sa2 => rfl
  case sa3 => simp [Value.oneCell']
  refine bodyPost_ret (results_cell_tmp Tryz.results54 _ _ (w.heap.size + 1) 31 _ (0, 0) _ rfl (setRow_heap _ _ _ _ _ _ S2.out) Tryz.underlying31 rfl size_tup) rfl ?_
  rw [atH_no (fun q => by rw [hok] at q; cases q.1)]
  exact AnsTu.zero rfl (below_setRow HB.out (by omega) _)
 | true =>
  have HO := hid hok
  have hn16 : n ≤ 16 := by have := (okH_of hok).1; omega
  clear hok
  by_cases hx : 0 ≤ x ∧ x ≤ (n : Int) - 1
  · obtain ⟨i, rfl⟩ : ∃ i : Nat, x = i := ⟨x.toNat, by omega⟩
    have hin : i < n := by omega
    have hin' : (i : Int) < (n : Int) := by omega
    have hi0 : (0 : Int) ≤ (i : Int) := by omega
    obtain ⟨b, off, a, c, rfl, hca, hcx, hr0, hmx⟩ := HR.out.at (k := i) (by omega)
    have hpg := okPg_of ((okH_of HO.out).2 i (by omega))
    have h16 := (okP_of hpg.1).n
    have HZ := hid (okP_of hpg.1).z
    have HNo := hid (fun (q : ¬ (0 ≤ y ∧ y ≤ ((ps.getD i pg0).2.length : Int) - 1)) => atH_no (ps := ps) (x := (i : Int)) (y := y) (fun z => q (by have := z.2.2; rw [Int.toNat_natCast] at this; exact this)))
    have HYes := hid (fun k (hk : k < (ps.getD i pg0).2.length) => atH_yes (ps := ps) (i := i) (k := k) HO.out (by omega) hk)
    have HX := hid hx
    generalize ps.getD i pg0 = p at hca hcx hr0 hmx h16 HZ HNo HYes
    obtain ⟨A, ss⟩ := p
    obtain ⟨m, hm⟩ : ∃ m, ss.length = m := ⟨_, rfl⟩
    simp only at hca hcx hr0 hmx h16 HZ HNo HYes
    rw [hm] at hcx hmx h16
    rw [hm] at HNo HYes
    have HM := hid hm
    have hr := hid hr0
    clear hx hpg hm hr0
    go_wp2_with fail
    refine (spec_inP _ _ _ _).mono ?_
    rintro e w1 ⟨rfl, e1⟩
    subst w1
    rw [decide_eq_true HX.out]
    by_cases hy : 0 ≤ y ∧ y ≤ (m : Int) - 1
    · obtain ⟨k, rfl⟩ : ∃ k : Nat, y = k := ⟨y.toNat, by omega⟩
      have hkm : k < m := by omega
      have hkm' : (k : Int) < (m : Int) := by omega
      have hk0 : (0 : Int) ≤ (k : Int) := by omega
      have HY := hid hy
      obtain ⟨b3, off3, a3, c3, rfl, hs1, hrs0, hnil, hroom⟩ := hr.out.at (k := k) (by rw [HM.out]; exact hkm)
      have hz92 := HZ.out k
      have HE := hid (HYes.out k hkm)
      have hTbd := readT_bd (zs := ss.getD k []) hrs0.bd (by omega)
      generalize ss.getD k [] = zz at hs1 hrs0 hz92 hroom HE hTbd
      obtain ⟨l, hlz⟩ : ∃ l, zz.length = l := ⟨_, rfl⟩
      rw [hlz] at hs1 hz92 hroom hrs0
      have hrs := hid hrs0
      have BD1 := hid hTbd.1
      have BD2 := hid hTbd.2.2.1
      clear hrs0 hTbd hlz hy
      go_wp2_with fail
      refine (spec_inP _ _ _ _).mono ?_
      rintro e w1 ⟨rfl, e1⟩
      subst w1
      rw [decide_eq_true HY.out]
      go_wp2_with fail
      refine (spec_TupleRead_any c3 hroom hrs.out (by omega)).mono ?_
      rintro e w5 ⟨f1, v1, f2, v2, rfl, hf1, hf2, sf1, sf2, o1, o2, hap, b5⟩
      obtain ⟨a1, c1, rfl⟩ := own_sl o1
      obtain ⟨a2, c2, rfl⟩ := own_sl o2
      have hst1 := fun w a m => run_store Tryz.prog w a (.float .f64 f1) m rfl
      have hst2 := fun w a m => run_store Tryz.prog w a (.float .f64 f2) m rfl
      have T2 := hid ((b5.block (w.heap.size + 1) (by have := HZW.out; omega)).trans S2.out)
      replace HB := hid (HB.out.trans (b5.mono HB.out.size))
      have O1 := hid o1
      have O2 := hid o2
      clear b5 o1 o2 hca hcx hs1 hc0
      go_wp2_with (refine wpList_store_row rfl 31 (.tmp 6) (.tmp 44) rfl (w.heap.size + 1) #[.int .i64 (readT zz).A, .int .i64 (readT zz).B, .int .i64 (readT zz).K, .int .i64 (readT zz).N, .float .f64 f1, .slice a1 (readT zz).Z.length c1, .int .i64 (readT zz).L, .int .i64 (readT zz).M, .float .f64 f2, .slice a2 (readT zz).Y.length c2] rfl rfl 31 _ T2.out ?t1 ?t2 ?t3 ?_)
      case t1 => exact size_tup
      case t2 => rfl
      case t3 => simp [Value.oneCell']
      have hzw := HZW.out
      refine bodyPost_ret (results_cell_tmp Tryz.results54 _ _ (w.heap.size + 1) 31 _ (0, 0) _ rfl (setRow_heap _ _ _ _ _ _ T2.out) Tryz.underlying31 rfl size_tup) rfl ?_
      rw [HE.out]
      have gr := fun v n xs (o : w5.ownsRow W.heap.size 5 1 v n xs) => owns_lower (base' := w.heap.size) (own_off10 o (g := w.heap.size + 1) (by omega) #[.int .i64 (readT zz).A, .int .i64 (readT zz).B, .int .i64 (readT zz).K, .int .i64 (readT zz).N, .float .f64 f1, .slice a1 (readT zz).Z.length c1, .int .i64 (readT zz).L, .int .i64 (readT zz).M, .float .f64 f2, .slice a2 (readT zz).Y.length c2]) (by omega)
      exact ⟨⟨f1, _, f2, _, rfl, hf1, hf2, sf1, sf2, gr _ _ _ O1.out, gr _ _ _ O2.out, hap, below_setRow HB.out (by omega) _⟩⟩
    · have HY := hid hy
      clear hy
      go_wp2_with fail
      refine (spec_inP _ _ _ _).mono ?_
      rintro e w1 ⟨rfl, e1⟩
      subst w1
      rw [decide_eq_false HY.out]
      clear hca hcx
      go_wp2_with (refine wpList_store_row rfl 31 (.tmp 6) (.tmp 33) rfl (w.heap.size + 1) #[.int .i64 0, .int .i64 0, .int .i64 0, .int .i64 0, .float .f64 0, .slice none 0 0, .int .i64 0, .int .i64 0, .float .f64 0, .slice none 0 0] rfl rfl 31 _ S2.out ?sb1 ?sb2 ?sb3 ?_)
      case sb1 => exact size_tup
      case sb2 => rfl
      case sb3 => simp [Value.oneCell']
      refine bodyPost_ret (results_cell_tmp Tryz.results54 _ _ (w.heap.size + 1) 31 _ (0, 0) _ rfl (setRow_heap _ _ _ _ _ _ S2.out) Tryz.underlying31 rfl size_tup) rfl ?_
      rw [HNo.out HY.out]
      exact AnsTu.zero rfl (below_setRow HB.out (by omega) _)
  · have HX := hid hx
    clear hx
    go_wp2_with fail
    refine (spec_inP _ _ _ _).mono ?_
    rintro e w1 ⟨rfl, e1⟩
    subst w1
    rw [decide_eq_false HX.out]
    go_wp2_with (refine wpList_store_row rfl 31 (.tmp 6) (.tmp 33) rfl (w.heap.size + 1) #[.int .i64 0, .int .i64 0, .int .i64 0, .int .i64 0, .float .f64 0, .slice none 0 0, .int .i64 0, .int .i64 0, .float .f64 0, .slice none 0 0] rfl rfl 31 _ S2.out ?sc1 ?sc2 ?sc3 ?_)
    case sc1 => exact size_tup
    case sc2 => rfl
    case sc3 => simp [Value.oneCell']
    refine bodyPost_ret (results_cell_tmp Tryz.results54 _ _ (w.heap.size + 1) 31 _ (0, 0) _ rfl (setRow_heap _ _ _ _ _ _ S2.out) Tryz.underlying31 rfl size_tup) rfl ?_
    rw [atH_no (fun q => HX.out (by have := q.2.1; rw [hl] at this; exact this))]
    exact AnsTu.zero rfl (below_setRow HB.out (by omega) _)
end Go.Proofs.YtkfhfjghfadofaaGreat
