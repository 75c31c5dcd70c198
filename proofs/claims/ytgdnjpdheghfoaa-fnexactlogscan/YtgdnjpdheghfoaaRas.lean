/- The contract of the specification's RecordAt. Conditions: at most 2^21 bytes, a place of 64 bits. -/
import Derived.Test.YtgdnjpdheghfoaaFan
namespace Go.Proofs.Ytgdnjpdheghfoaa
open Go.RowKit
set_option maxRecDepth 100000

theorem own_reads {w : World} {base m c : Nat} {ad : Option Addr} {zs : List Int} (h : w.ownsRow base 5 1 (.slice ad m c) m (bys zs)) (hbd : bdL zs) : Reads w ad m zs := by
  obtain ⟨ad', c', e, r, _⟩ := Reads.own h hbd
  obtain ⟨rfl, _, rfl⟩ := Value.slice.inj e
  exact r

set_option maxHeartbeats 12800000 in
theorem spec_RecordAt {ad : Option Addr} {n : Nat} (cap : Nat) {zs : List Int} {w : World} (h : Reads w ad n zs) (hn : n ≤ 2097152) (hcap : n ≤ cap) (at' : Int) (h1 : -9223372036854775808 ≤ at') (h2 : at' ≤ 9223372036854775807) :
    Calls Try.prog 32 #[.slice ad n cap, .int .i64 at'] w fun e w' => ∃ v, e = .returned (.tuple #[.agg #[.int .i64 (raOf zs at').r.K, .int .i64 (raOf zs at').r.L, .int .i64 (raOf zs at').r.X, .int .i64 (raOf zs at').r.P, .int .i64 (raOf zs at').r.S, v], .int .i64 (raOf zs at').n, .int .i64 (raOf zs at').c]) ∧ w'.ownsRow w.heap.size 5 1 v (raOf zs at').r.D.length (bys (raOf zs at').r.D) ∧ Below w.heap.size w w' := by
  obtain ⟨i0, hi, hz0, hz1, hz2⟩ := info_parts Try.info5
  have hbd := fa_b_bd h.bd at'
  have hbl := fa_b_len zs at'
  have k1 := @ra_code zs at'
  have k2 := @ra_form zs at'
  have k3 := @ra_well zs at'
  have B0 := hid (Below.alloc1 w (.cells #[.int .i64 0, .int .i64 0, .int .i64 0, .int .i64 0, .int .i64 0, .slice none 0 0] 36))
  have bT := two w (.cells #[.int .i64 0, .int .i64 0, .int .i64 0, .int .i64 0, .int .i64 0, .slice none 0 0] 36) (.cells #[.int .i64 0, .int .i64 0, .int .i64 0, .int .i64 0, .int .i64 0, .slice none 0 0] 36)
  have T0 : ((w.alloc (.cells #[.int .i64 0, .int .i64 0, .int .i64 0, .int .i64 0, .int .i64 0, .slice none 0 0] 36)).alloc (.cells #[.int .i64 0, .int .i64 0, .int .i64 0, .int .i64 0, .int .i64 0, .slice none 0 0] 36)).heap[w.heap.size]? = some (.cells #[.int .i64 0, .int .i64 0, .int .i64 0, .int .i64 0, .int .i64 0, .slice none 0 0] 36) := (alloc_old _ _ _ (by simp)).trans (heap_alloc_new w (.cells #[.int .i64 0, .int .i64 0, .int .i64 0, .int .i64 0, .int .i64 0, .slice none 0 0] 36))
  have T7' : ((w.alloc (.cells #[.int .i64 0, .int .i64 0, .int .i64 0, .int .i64 0, .int .i64 0, .slice none 0 0] 36)).alloc (.cells #[.int .i64 0, .int .i64 0, .int .i64 0, .int .i64 0, .int .i64 0, .slice none 0 0] 36)).heap[(w.heap.size + 1)]? = some (.cells #[.int .i64 0, .int .i64 0, .int .i64 0, .int .i64 0, .int .i64 0, .slice none 0 0] 36) := by have := heap_alloc_new (w.alloc (.cells #[.int .i64 0, .int .i64 0, .int .i64 0, .int .i64 0, .int .i64 0, .slice none 0 0] 36)) (.cells #[.int .i64 0, .int .i64 0, .int .i64 0, .int .i64 0, .int .i64 0, .slice none 0 0] 36); rwa [alloc_size] at this
  have hsz : ((w.alloc (.cells #[.int .i64 0, .int .i64 0, .int .i64 0, .int .i64 0, .int .i64 0, .slice none 0 0] 36)).alloc (.cells #[.int .i64 0, .int .i64 0, .int .i64 0, .int .i64 0, .int .i64 0, .slice none 0 0] 36)).heap.size = w.heap.size + 2 := by rw [alloc_size, alloc_size]
  go_enter Try.func32, Try.ntmps32
  go_wp2_with fail
  generalize (w.alloc (.cells #[.int .i64 0, .int .i64 0, .int .i64 0, .int .i64 0, .int .i64 0, .slice none 0 0] 36)).alloc (.cells #[.int .i64 0, .int .i64 0, .int .i64 0, .int .i64 0, .int .i64 0, .slice none 0 0] 36) = W0 at *
  refine (spec_FrameAt' cap (h.below bT (Nat.le_refl _)) hn hcap at' h1 h2).mono ?_
  rintro e w1 ⟨v, rfl, o, b⟩
  generalize hF : faOf zs at' = FA0 at *
  obtain ⟨fk, fb, fn, fc⟩ := FA0
  simp only at o hbd hbl k1 k2 k3 ⊢
  have T1 := hid ((b.block w.heap.size (by omega)).trans T0)
  have T7 := hid ((b.block (w.heap.size + 1) (by omega)).trans T7')
  have OB := hid (owns_base o (show w.heap.size + 2 ≤ W0.heap.size by omega))
  have B1 := hid (bT.trans (b.mono bT.size))
  obtain ⟨va, vc, rfl⟩ := own_slice o
  have S1 := hid (show w.heap.size + 2 ≤ w1.heap.size by have := b.size; omega)
  clear o b T0 B0 hsz hF T7' bT
  by_cases hc0 : fc = 0
  rotate_left
  · have HK := hid (k1 hc0)
    have q : (fc != 0) = true := by simp [hc0]
    clear k1 k2 k3 hc0
    go_wp2_with (first
      | (refine wpList_load_row rfl 36 (.tmp 7) rfl (w.heap.size + 1) rfl 36 _ (0, 0) _ T7.out Try.underlying36 rfl sizeRc ?_)
      | (refine wpList_store_row rfl 36 (.tmp 4) (.tmp 22) rfl w.heap.size #[.int .i64 0, .int .i64 0, .int .i64 0, .int .i64 0, .int .i64 0, .slice none 0 0] rfl rfl 36 _ T1.out ?s1 ?s2 ?s3 ?_))
    case s1 => exact sizeRc
    case s2 => rfl
    case s3 => simp [Value.oneCell']
    go_wp2_with fail
    refine bodyPost_ret (results_cell_tmp2 Try.results32 _ _ w.heap.size 36 #[.int .i64 0, .int .i64 0, .int .i64 0, .int .i64 0, .int .i64 0, .slice none 0 0] (0, 0) _ rfl (setRow_heap _ _ _ _ _ _ T1.out) Try.underlying36 rfl sizeRc) rfl ⟨.slice none 0 0, ?_, ?_, below_setRow B1.out (Nat.le_refl _) _⟩
    · rw [HK.out]; rfl
    · rw [HK.out]; exact World.ownsRow_nil _ _ _ _
  subst hc0
  by_cases h12 : fb.length < 12
  · have HK := hid (k2 rfl (by omega))
    clear k1 k2 k3
    go_wp2_with (first
      | (refine wpList_load_row rfl 36 (.tmp 7) rfl (w.heap.size + 1) rfl 36 _ (0, 0) _ T7.out Try.underlying36 rfl sizeRc ?_)
      | (refine wpList_store_row rfl 36 (.tmp 4) (.tmp 27) rfl w.heap.size #[.int .i64 0, .int .i64 0, .int .i64 0, .int .i64 0, .int .i64 0, .slice none 0 0] rfl rfl 36 _ T1.out ?s1 ?s2 ?s3 ?_))
    case s1 => exact sizeRc
    case s2 => rfl
    case s3 => simp [Value.oneCell']
    go_wp2_with fail
    refine bodyPost_ret (results_cell_tmp2 Try.results32 _ _ w.heap.size 36 #[.int .i64 0, .int .i64 0, .int .i64 0, .int .i64 0, .int .i64 0, .slice none 0 0] (0, 0) _ rfl (setRow_heap _ _ _ _ _ _ T1.out) Try.underlying36 rfl sizeRc) rfl ⟨.slice none 0 0, ?_, ?_, below_setRow B1.out (Nat.le_refl _) _⟩
    · rw [HK.out]; rfl
    · rw [HK.out]; exact World.ownsRow_nil _ _ _ _
  obtain ⟨nb, hnb⟩ : ∃ m, fb.length = m := ⟨_, rfl⟩
  have HNB := hid hnb
  have hdl : (fb.drop 12).length = nb - 12 := by simp [hnb]
  rw [hnb] at h12 hbl OB ⊢
  obtain ⟨ok, hok⟩ : ∃ b, okR (recOf fk fb) = b := ⟨_, rfl⟩
  have HR := hid (show recOf fk fb = ⟨fk, numOf fb 0 4, numOf fb 4 4, numOf fb 8 2, numOf fb 10 2, fb.drop 12⟩ from rfl)
  obtain ⟨N1, e1⟩ : ∃ x, numOf fb 0 4 = x := ⟨_, rfl⟩
  obtain ⟨N2, e2⟩ : ∃ x, numOf fb 4 4 = x := ⟨_, rfl⟩
  obtain ⟨N3, e3⟩ : ∃ x, numOf fb 8 2 = x := ⟨_, rfl⟩
  obtain ⟨N4, e4⟩ : ∃ x, numOf fb 10 2 = x := ⟨_, rfl⟩
  rw [e1, e2, e3, e4] at HR
  have E1 := hid e1
  have E2 := hid e2
  have E3 := hid e3
  have E4 := hid e4
  have K2 := hid (fun (h : ok = false) => k2 rfl (by rw [hok, h]; simp))
  have K3 := hid (fun (h : ok = true) => k3 rfl ⟨by rw [hnb]; omega, hok.trans h⟩)
  have HOK := hid (show okRn fk N1 N2 N3 N4 (nb - 12) = ok by rw [← hok, HR.out]; unfold okR; simp only [hdl])
  have HDL := hid hdl
  have hq : ¬ (nb : Int) < 12 := by omega
  clear k1 k2 k3 hok hnb e1 e2 e3 e4 hdl
  obtain ⟨g, c', ev, rq, hcc, _⟩ := own_cap OB.out hbd (by omega)
  obtain ⟨rfl, _, rfl⟩ := Value.slice.inj ev
  clear ev rq
  have c : w1.cell? ⟨(w.heap.size + 1), 0, none⟩ = some (.int .i64 0) := by rw [cell_of_row _ _ _ _ _ _ T7.out]; rfl
  have f : w1.frozen? ⟨(w.heap.size + 1), 0, none⟩ = false := frozen_of_row _ _ _ _ _ T7.out
  go_wp2_with fail
  have T7n : (w1.setCell ⟨(w.heap.size + 1), 0, none⟩ (.int .i64 fk)).heap[(w.heap.size + 1)]? = some (.cells #[.int .i64 fk, .int .i64 0, .int .i64 0, .int .i64 0, .int .i64 0, .slice none 0 0] 36) := heap_setCell_same w1 (w.heap.size + 1) 0 _ 36 (.int .i64 fk) T7.out
  replace T1 := hid ((heap_setCell_other w1 ⟨(w.heap.size + 1), 0, none⟩ w.heap.size (.int .i64 fk) (by simp)).trans T1.out)
  replace OB := hid (owns_off (w' := w1.setCell ⟨(w.heap.size + 1), 0, none⟩ (.int .i64 fk)) OB.out (Nat.lt_succ_self _) (fun j hj => heap_setCell_other _ _ _ _ hj))
  replace B1 := hid (B1.out.setCell (p := ⟨(w.heap.size + 1), 0, none⟩) (Nat.le_succ _) (.int .i64 fk))
  replace S1 := hid (show w.heap.size + 2 ≤ (w1.setCell ⟨(w.heap.size + 1), 0, none⟩ (.int .i64 fk)).heap.size by simpa using S1.out)
  replace T7 := hid T7n
  clear T7n c f
  generalize w1.setCell ⟨(w.heap.size + 1), 0, none⟩ (.int .i64 fk) = V0 at *
  refine (spec_GetNum vc (own_reads OB.out hbd) (by omega) 0 4 (by omega) (by omega) (by omega)).mono ?_
  rintro e u0 ⟨rfl, hu⟩
  obtain rfl := hu.symm
  rw [E1.out]
  have c : V0.cell? ⟨(w.heap.size + 1), 1, none⟩ = some (.int .i64 0) := by rw [cell_of_row _ _ _ _ _ _ T7.out]; rfl
  have f : V0.frozen? ⟨(w.heap.size + 1), 1, none⟩ = false := frozen_of_row _ _ _ _ _ T7.out
  go_wp2_with fail
  have T7n : (V0.setCell ⟨(w.heap.size + 1), 1, none⟩ (.int .i64 N1)).heap[(w.heap.size + 1)]? = some (.cells #[.int .i64 fk, .int .i64 N1, .int .i64 0, .int .i64 0, .int .i64 0, .slice none 0 0] 36) := heap_setCell_same V0 (w.heap.size + 1) 1 _ 36 (.int .i64 N1) T7.out
  replace T1 := hid ((heap_setCell_other V0 ⟨(w.heap.size + 1), 1, none⟩ w.heap.size (.int .i64 N1) (by simp)).trans T1.out)
  replace OB := hid (owns_off (w' := V0.setCell ⟨(w.heap.size + 1), 1, none⟩ (.int .i64 N1)) OB.out (Nat.lt_succ_self _) (fun j hj => heap_setCell_other _ _ _ _ hj))
  replace B1 := hid (B1.out.setCell (p := ⟨(w.heap.size + 1), 1, none⟩) (Nat.le_succ _) (.int .i64 N1))
  replace S1 := hid (show w.heap.size + 2 ≤ (V0.setCell ⟨(w.heap.size + 1), 1, none⟩ (.int .i64 N1)).heap.size by simpa using S1.out)
  replace T7 := hid T7n
  clear T7n c f
  generalize V0.setCell ⟨(w.heap.size + 1), 1, none⟩ (.int .i64 N1) = V1 at *
  refine (spec_GetNum vc (own_reads OB.out hbd) (by omega) 4 4 (by omega) (by omega) (by omega)).mono ?_
  rintro e u1 ⟨rfl, hu⟩
  obtain rfl := hu.symm
  rw [E2.out]
  have c : V1.cell? ⟨(w.heap.size + 1), 2, none⟩ = some (.int .i64 0) := by rw [cell_of_row _ _ _ _ _ _ T7.out]; rfl
  have f : V1.frozen? ⟨(w.heap.size + 1), 2, none⟩ = false := frozen_of_row _ _ _ _ _ T7.out
  go_wp2_with fail
  have T7n : (V1.setCell ⟨(w.heap.size + 1), 2, none⟩ (.int .i64 N2)).heap[(w.heap.size + 1)]? = some (.cells #[.int .i64 fk, .int .i64 N1, .int .i64 N2, .int .i64 0, .int .i64 0, .slice none 0 0] 36) := heap_setCell_same V1 (w.heap.size + 1) 2 _ 36 (.int .i64 N2) T7.out
  replace T1 := hid ((heap_setCell_other V1 ⟨(w.heap.size + 1), 2, none⟩ w.heap.size (.int .i64 N2) (by simp)).trans T1.out)
  replace OB := hid (owns_off (w' := V1.setCell ⟨(w.heap.size + 1), 2, none⟩ (.int .i64 N2)) OB.out (Nat.lt_succ_self _) (fun j hj => heap_setCell_other _ _ _ _ hj))
  replace B1 := hid (B1.out.setCell (p := ⟨(w.heap.size + 1), 2, none⟩) (Nat.le_succ _) (.int .i64 N2))
  replace S1 := hid (show w.heap.size + 2 ≤ (V1.setCell ⟨(w.heap.size + 1), 2, none⟩ (.int .i64 N2)).heap.size by simpa using S1.out)
  replace T7 := hid T7n
  clear T7n c f
  generalize V1.setCell ⟨(w.heap.size + 1), 2, none⟩ (.int .i64 N2) = V2 at *
  refine (spec_GetNum vc (own_reads OB.out hbd) (by omega) 8 2 (by omega) (by omega) (by omega)).mono ?_
  rintro e u2 ⟨rfl, hu⟩
  obtain rfl := hu.symm
  rw [E3.out]
  have c : V2.cell? ⟨(w.heap.size + 1), 3, none⟩ = some (.int .i64 0) := by rw [cell_of_row _ _ _ _ _ _ T7.out]; rfl
  have f : V2.frozen? ⟨(w.heap.size + 1), 3, none⟩ = false := frozen_of_row _ _ _ _ _ T7.out
  go_wp2_with fail
  have T7n : (V2.setCell ⟨(w.heap.size + 1), 3, none⟩ (.int .i64 N3)).heap[(w.heap.size + 1)]? = some (.cells #[.int .i64 fk, .int .i64 N1, .int .i64 N2, .int .i64 N3, .int .i64 0, .slice none 0 0] 36) := heap_setCell_same V2 (w.heap.size + 1) 3 _ 36 (.int .i64 N3) T7.out
  replace T1 := hid ((heap_setCell_other V2 ⟨(w.heap.size + 1), 3, none⟩ w.heap.size (.int .i64 N3) (by simp)).trans T1.out)
  replace OB := hid (owns_off (w' := V2.setCell ⟨(w.heap.size + 1), 3, none⟩ (.int .i64 N3)) OB.out (Nat.lt_succ_self _) (fun j hj => heap_setCell_other _ _ _ _ hj))
  replace B1 := hid (B1.out.setCell (p := ⟨(w.heap.size + 1), 3, none⟩) (Nat.le_succ _) (.int .i64 N3))
  replace S1 := hid (show w.heap.size + 2 ≤ (V2.setCell ⟨(w.heap.size + 1), 3, none⟩ (.int .i64 N3)).heap.size by simpa using S1.out)
  replace T7 := hid T7n
  clear T7n c f
  generalize V2.setCell ⟨(w.heap.size + 1), 3, none⟩ (.int .i64 N3) = V3 at *
  refine (spec_GetNum vc (own_reads OB.out hbd) (by omega) 10 2 (by omega) (by omega) (by omega)).mono ?_
  rintro e u3 ⟨rfl, hu⟩
  obtain rfl := hu.symm
  rw [E4.out]
  have c : V3.cell? ⟨(w.heap.size + 1), 4, none⟩ = some (.int .i64 0) := by rw [cell_of_row _ _ _ _ _ _ T7.out]; rfl
  have f : V3.frozen? ⟨(w.heap.size + 1), 4, none⟩ = false := frozen_of_row _ _ _ _ _ T7.out
  by_cases hc12 : vc = 12
  · obtain rfl := hc12
    obtain rfl : nb = 12 := by omega
    replace HDL := hid (show (fb.drop 12).length = 0 from HDL.out)
    replace HOK := hid (show okRn fk N1 N2 N3 N4 0 = ok from HOK.out)
    have T7n : (V3.setCell ⟨(w.heap.size + 1), 4, none⟩ (.int .i64 N4)).heap[(w.heap.size + 1)]? = some (.cells #[.int .i64 fk, .int .i64 N1, .int .i64 N2, .int .i64 N3, .int .i64 N4, .slice none 0 0] 36) := heap_setCell_same V3 (w.heap.size + 1) 4 _ 36 (.int .i64 N4) T7.out
    replace T1 := hid ((heap_setCell_other V3 ⟨(w.heap.size + 1), 4, none⟩ w.heap.size (.int .i64 N4) (by simp)).trans T1.out)
    replace OB := hid (owns_off (w' := (V3.setCell ⟨(w.heap.size + 1), 4, none⟩ (.int .i64 N4))) OB.out (Nat.lt_succ_self _) (fun j hj => heap_setCell_other _ _ _ _ hj))
    replace B1 := hid (B1.out.setCell (p := ⟨(w.heap.size + 1), 4, none⟩) (Nat.le_succ _) (.int .i64 N4))
    replace S1 := hid (show w.heap.size + 2 ≤ (V3.setCell ⟨(w.heap.size + 1), 4, none⟩ (.int .i64 N4)).heap.size by simpa using S1.out)
    replace T7 := hid T7n
    clear T7n
    have RD := hid (show Reads (V3.setCell ⟨(w.heap.size + 1), 4, none⟩ (.int .i64 N4)) (some ⟨g, 0, none⟩) 0 (fb.drop 12) from ⟨HDL.out, .inl rfl, bd_drop hbd 12⟩)
    have OO := hid (World.ownsRow_lit (base := (V3.setCell ⟨(w.heap.size + 1), 4, none⟩ (.int .i64 N4)).heap.size) (e := 5) (size := 1) (V3.setCell ⟨(w.heap.size + 1), 4, none⟩ (.int .i64 N4)) #[] 0 (Nat.le_refl _) (Nat.zero_le _) rfl)
    go_wp2_with (at_builtin; refine wpList_append_own _ rfl _ _ 22 rfl (V3.setCell ⟨(w.heap.size + 1), 4, none⟩ (.int .i64 N4)).heap.size 5 i0 (.int .u8 0) 1 1 Try.underlying22 hi hz0 hz1 hz2 rfl (by decide) (.slice (some ⟨(V3.setCell ⟨(w.heap.size + 1), 4, none⟩ (.int .i64 N4)).heap.size, 0, none⟩) 0 0) 0 [] ?g0 OO.out ⟨g, 0, none⟩ 0 0 (bys (fb.drop 12)) ?g1 ?g2 (RD.out.below ((Below.refl _ _).alloc (Nat.le_refl _) _) (Nat.le_refl _)).news (bys_one _) ?g4 ?g5 ?g6 ?_)
    case g0 => simp [Act.eval]
    case g1 => simp [Act.eval]
    case g2 => rw [bys_length, RD.out.len, Nat.mul_one]
    case g4 => unfold maxLen; omega
    case g5 => omega
    case g6 => simp
    intro v' w4 o4 g4 _
    have b4 : Below (V3.setCell ⟨(w.heap.size + 1), 4, none⟩ (.int .i64 N4)).heap.size (V3.setCell ⟨(w.heap.size + 1), 4, none⟩ (.int .i64 N4)) w4 := ((Below.refl _ _).alloc (Nat.le_refl _) _).grown g4 (by simp) (fun k hk => by simp [Value.ownBlock] at hk; simp; omega)
    obtain ⟨a3, c3, rfl⟩ := own_slice o4
    have s1 := S1.out
    replace OB := hid (owns_base o4 (show w.heap.size + 2 ≤ _ by simpa using s1))
    replace T1 := hid ((b4.block w.heap.size (by omega)).trans T1.out)
    replace T7 := hid ((b4.block (w.heap.size + 1) (by omega)).trans T7.out)
    replace B1 := hid (B1.out.trans (b4.mono B1.out.size))
    replace S1 := hid (Nat.le_trans S1.out b4.size)
    clear b4 o4 g4 RD s1 c f OO
    have c : w4.cell? ⟨(w.heap.size + 1), 5, none⟩ = some (.slice none 0 0) := by rw [cell_of_row _ _ _ _ _ _ T7.out]; rfl
    have f : w4.frozen? ⟨(w.heap.size + 1), 5, none⟩ = false := frozen_of_row _ _ _ _ _ T7.out
    have T7n : (w4.setCell ⟨(w.heap.size + 1), 5, none⟩ (.slice a3 0 c3)).heap[(w.heap.size + 1)]? = some (.cells #[.int .i64 fk, .int .i64 N1, .int .i64 N2, .int .i64 N3, .int .i64 N4, .slice a3 0 c3] 36) := heap_setCell_same w4 (w.heap.size + 1) 5 _ 36 (.slice a3 0 c3) T7.out
    replace T1 := hid ((heap_setCell_other w4 ⟨(w.heap.size + 1), 5, none⟩ w.heap.size (.slice a3 0 c3) (by simp)).trans T1.out)
    replace OB := hid (owns_off (w' := (w4.setCell ⟨(w.heap.size + 1), 5, none⟩ (.slice a3 0 c3))) OB.out (Nat.lt_succ_self _) (fun j hj => heap_setCell_other _ _ _ _ hj))
    replace B1 := hid (B1.out.setCell (p := ⟨(w.heap.size + 1), 5, none⟩) (Nat.le_succ _) (.slice a3 0 c3))
    replace S1 := hid (show w.heap.size + 2 ≤ (w4.setCell ⟨(w.heap.size + 1), 5, none⟩ (.slice a3 0 c3)).heap.size by simpa using S1.out)
    replace T7 := hid T7n
    clear T7n
    go_wp2_with (refine wpList_load_row rfl 36 (.tmp 7) rfl (w.heap.size + 1) rfl 36 _ (0, 0) _ T7.out Try.underlying36 rfl sizeRc ?_)
    clear c f
    generalize (w4.setCell ⟨(w.heap.size + 1), 5, none⟩ (.slice a3 0 c3)) = V5 at *
    refine (spec_RecordOk fk N1 N2 N3 N4 a3 0 c3 _).mono ?_
    rintro e w6 ⟨rfl, b⟩
    rw [HOK.out]
    have s1 := S1.out
    replace OB := hid (owns_below b (Nat.le_refl _) OB.out)
    replace T1 := hid ((b.block w.heap.size (by omega)).trans T1.out)
    replace T7 := hid ((b.block (w.heap.size + 1) (by omega)).trans T7.out)
    replace B1 := hid (B1.out.trans (b.mono B1.out.size))
    clear b s1
    cases ok
    · have HK := hid (K2.out rfl)
      clear K2 K3
      go_wp2_with (refine wpList_store_row rfl 36 (.tmp 4) (.tmp 62) rfl w.heap.size #[.int .i64 0, .int .i64 0, .int .i64 0, .int .i64 0, .int .i64 0, .slice none 0 0] rfl rfl 36 _ T1.out ?s1 ?s2 ?s3 ?_)
      case s1 => exact sizeRc
      case s2 => rfl
      case s3 => simp [Value.oneCell']
      go_wp2_with fail
      refine bodyPost_ret (results_cell_tmp2 Try.results32 _ _ w.heap.size 36 #[.int .i64 0, .int .i64 0, .int .i64 0, .int .i64 0, .int .i64 0, .slice none 0 0] (0, 0) _ rfl (setRow_heap _ _ _ _ _ _ T1.out) Try.underlying36 rfl sizeRc) rfl ⟨.slice none 0 0, ?_, ?_, below_setRow B1.out (Nat.le_refl _) _⟩
      · rw [HK.out]; rfl
      · rw [HK.out]; exact World.ownsRow_nil _ _ _ _
    have HK := hid (K3.out rfl)
    clear K2 K3
    go_wp2_with (first
      | (refine wpList_load_row rfl 36 (.tmp 7) rfl (w.heap.size + 1) rfl 36 _ (0, 0) _ T7.out Try.underlying36 rfl sizeRc ?_)
      | (refine wpList_store_row rfl 36 (.tmp 4) (.tmp 63) rfl w.heap.size #[.int .i64 fk, .int .i64 N1, .int .i64 N2, .int .i64 N3, .int .i64 N4, .slice a3 0 c3] rfl rfl 36 _ T1.out ?s1 ?s2 ?s3 ?_))
    case s1 => exact sizeRc
    case s2 => rfl
    case s3 => simp [Value.oneCell']
    go_wp2_with fail
    refine bodyPost_ret (results_cell_tmp2 Try.results32 _ _ w.heap.size 36 #[.int .i64 fk, .int .i64 N1, .int .i64 N2, .int .i64 N3, .int .i64 N4, .slice a3 0 c3] (0, 0) _ rfl (setRow_heap _ _ _ _ _ _ T1.out) Try.underlying36 rfl sizeRc) rfl ⟨.slice a3 0 c3, ?_, ?_, below_setRow B1.out (Nat.le_refl _) _⟩
    · rw [HK.out, HR.out]; rfl
    · rw [HK.out, HR.out]
      simp only
      rw [HDL.out]
      exact owns_base (owns_off (g0 := w.heap.size) OB.out (by omega) (fun k hk => setRow_other _ _ _ _ hk)) (by omega)
  have T7n : (V3.setCell ⟨(w.heap.size + 1), 4, none⟩ (.int .i64 N4)).heap[(w.heap.size + 1)]? = some (.cells #[.int .i64 fk, .int .i64 N1, .int .i64 N2, .int .i64 N3, .int .i64 N4, .slice none 0 0] 36) := heap_setCell_same V3 (w.heap.size + 1) 4 _ 36 (.int .i64 N4) T7.out
  replace T1 := hid ((heap_setCell_other V3 ⟨(w.heap.size + 1), 4, none⟩ w.heap.size (.int .i64 N4) (by simp)).trans T1.out)
  replace OB := hid (owns_off (w' := (V3.setCell ⟨(w.heap.size + 1), 4, none⟩ (.int .i64 N4))) OB.out (Nat.lt_succ_self _) (fun j hj => heap_setCell_other _ _ _ _ hj))
  replace B1 := hid (B1.out.setCell (p := ⟨(w.heap.size + 1), 4, none⟩) (Nat.le_succ _) (.int .i64 N4))
  replace S1 := hid (show w.heap.size + 2 ≤ (V3.setCell ⟨(w.heap.size + 1), 4, none⟩ (.int .i64 N4)).heap.size by simpa using S1.out)
  replace T7 := hid T7n
  clear T7n
  have RD := hid (show Reads (V3.setCell ⟨(w.heap.size + 1), 4, none⟩ (.int .i64 N4)) (some ⟨g, 12, none⟩) (nb - 12) (fb.drop 12) from by have := (own_reads OB.out hbd).cut 12 (nb - 12) (by omega); rw [Nat.zero_add] at this; rwa [show sub fb 12 (nb - 12) = fb.drop 12 by unfold sub; rw [List.take_of_length_le (by rw [HDL.out]; exact Nat.le_refl _)]] at this)
  have OO := hid (World.ownsRow_lit (base := (V3.setCell ⟨(w.heap.size + 1), 4, none⟩ (.int .i64 N4)).heap.size) (e := 5) (size := 1) (V3.setCell ⟨(w.heap.size + 1), 4, none⟩ (.int .i64 N4)) #[] 0 (Nat.le_refl _) (Nat.zero_le _) rfl)
  go_wp2_with (at_builtin; refine wpList_append_own _ rfl _ _ 22 rfl (V3.setCell ⟨(w.heap.size + 1), 4, none⟩ (.int .i64 N4)).heap.size 5 i0 (.int .u8 0) 1 1 Try.underlying22 hi hz0 hz1 hz2 rfl (by decide) (.slice (some ⟨(V3.setCell ⟨(w.heap.size + 1), 4, none⟩ (.int .i64 N4)).heap.size, 0, none⟩) 0 0) 0 [] ?g0 OO.out ⟨g, 12, none⟩ (nb - 12) (vc - 12) (bys (fb.drop 12)) ?g1 ?g2 (RD.out.below ((Below.refl _ _).alloc (Nat.le_refl _) _) (Nat.le_refl _)).news (bys_one _) ?g4 ?g5 ?g6 ?_)
  case g0 => simp [Act.eval]
  case g1 => simp [Act.eval]
  case g2 => rw [bys_length, RD.out.len, Nat.mul_one]
  case g4 => unfold maxLen; omega
  case g5 => omega
  case g6 => simp
  intro v' w4 o4 g4 _
  have b4 : Below (V3.setCell ⟨(w.heap.size + 1), 4, none⟩ (.int .i64 N4)).heap.size (V3.setCell ⟨(w.heap.size + 1), 4, none⟩ (.int .i64 N4)) w4 := ((Below.refl _ _).alloc (Nat.le_refl _) _).grown g4 (by simp) (fun k hk => by simp [Value.ownBlock] at hk; simp; omega)
  obtain ⟨a3, c3, rfl⟩ := own_slice o4
  have s1 := S1.out
  replace OB := hid (owns_base o4 (show w.heap.size + 2 ≤ _ by simpa using s1))
  replace T1 := hid ((b4.block w.heap.size (by omega)).trans T1.out)
  replace T7 := hid ((b4.block (w.heap.size + 1) (by omega)).trans T7.out)
  replace B1 := hid (B1.out.trans (b4.mono B1.out.size))
  replace S1 := hid (Nat.le_trans S1.out b4.size)
  clear b4 o4 g4 RD s1 c f OO
  have c : w4.cell? ⟨(w.heap.size + 1), 5, none⟩ = some (.slice none 0 0) := by rw [cell_of_row _ _ _ _ _ _ T7.out]; rfl
  have f : w4.frozen? ⟨(w.heap.size + 1), 5, none⟩ = false := frozen_of_row _ _ _ _ _ T7.out
  have T7n : (w4.setCell ⟨(w.heap.size + 1), 5, none⟩ (.slice a3 (nb - 12) c3)).heap[(w.heap.size + 1)]? = some (.cells #[.int .i64 fk, .int .i64 N1, .int .i64 N2, .int .i64 N3, .int .i64 N4, .slice a3 (nb - 12) c3] 36) := heap_setCell_same w4 (w.heap.size + 1) 5 _ 36 (.slice a3 (nb - 12) c3) T7.out
  replace T1 := hid ((heap_setCell_other w4 ⟨(w.heap.size + 1), 5, none⟩ w.heap.size (.slice a3 (nb - 12) c3) (by simp)).trans T1.out)
  replace OB := hid (owns_off (w' := (w4.setCell ⟨(w.heap.size + 1), 5, none⟩ (.slice a3 (nb - 12) c3))) OB.out (Nat.lt_succ_self _) (fun j hj => heap_setCell_other _ _ _ _ hj))
  replace B1 := hid (B1.out.setCell (p := ⟨(w.heap.size + 1), 5, none⟩) (Nat.le_succ _) (.slice a3 (nb - 12) c3))
  replace S1 := hid (show w.heap.size + 2 ≤ (w4.setCell ⟨(w.heap.size + 1), 5, none⟩ (.slice a3 (nb - 12) c3)).heap.size by simpa using S1.out)
  replace T7 := hid T7n
  clear T7n
  go_wp2_with (refine wpList_load_row rfl 36 (.tmp 7) rfl (w.heap.size + 1) rfl 36 _ (0, 0) _ T7.out Try.underlying36 rfl sizeRc ?_)
  clear c f
  generalize (w4.setCell ⟨(w.heap.size + 1), 5, none⟩ (.slice a3 (nb - 12) c3)) = V5 at *
  refine (spec_RecordOk fk N1 N2 N3 N4 a3 (nb - 12) c3 _).mono ?_
  rintro e w6 ⟨rfl, b⟩
  rw [HOK.out]
  have s1 := S1.out
  replace OB := hid (owns_below b (Nat.le_refl _) OB.out)
  replace T1 := hid ((b.block w.heap.size (by omega)).trans T1.out)
  replace T7 := hid ((b.block (w.heap.size + 1) (by omega)).trans T7.out)
  replace B1 := hid (B1.out.trans (b.mono B1.out.size))
  clear b s1
  cases ok
  · have HK := hid (K2.out rfl)
    clear K2 K3
    go_wp2_with (refine wpList_store_row rfl 36 (.tmp 4) (.tmp 62) rfl w.heap.size #[.int .i64 0, .int .i64 0, .int .i64 0, .int .i64 0, .int .i64 0, .slice none 0 0] rfl rfl 36 _ T1.out ?s1 ?s2 ?s3 ?_)
    case s1 => exact sizeRc
    case s2 => rfl
    case s3 => simp [Value.oneCell']
    go_wp2_with fail
    refine bodyPost_ret (results_cell_tmp2 Try.results32 _ _ w.heap.size 36 #[.int .i64 0, .int .i64 0, .int .i64 0, .int .i64 0, .int .i64 0, .slice none 0 0] (0, 0) _ rfl (setRow_heap _ _ _ _ _ _ T1.out) Try.underlying36 rfl sizeRc) rfl ⟨.slice none 0 0, ?_, ?_, below_setRow B1.out (Nat.le_refl _) _⟩
    · rw [HK.out]; rfl
    · rw [HK.out]; exact World.ownsRow_nil _ _ _ _
  have HK := hid (K3.out rfl)
  clear K2 K3
  go_wp2_with (first
    | (refine wpList_load_row rfl 36 (.tmp 7) rfl (w.heap.size + 1) rfl 36 _ (0, 0) _ T7.out Try.underlying36 rfl sizeRc ?_)
    | (refine wpList_store_row rfl 36 (.tmp 4) (.tmp 63) rfl w.heap.size #[.int .i64 fk, .int .i64 N1, .int .i64 N2, .int .i64 N3, .int .i64 N4, .slice a3 (nb - 12) c3] rfl rfl 36 _ T1.out ?s1 ?s2 ?s3 ?_))
  case s1 => exact sizeRc
  case s2 => rfl
  case s3 => simp [Value.oneCell']
  go_wp2_with fail
  refine bodyPost_ret (results_cell_tmp2 Try.results32 _ _ w.heap.size 36 #[.int .i64 fk, .int .i64 N1, .int .i64 N2, .int .i64 N3, .int .i64 N4, .slice a3 (nb - 12) c3] (0, 0) _ rfl (setRow_heap _ _ _ _ _ _ T1.out) Try.underlying36 rfl sizeRc) rfl ⟨.slice a3 (nb - 12) c3, ?_, ?_, below_setRow B1.out (Nat.le_refl _) _⟩
  · rw [HK.out, HR.out]; rfl
  · rw [HK.out, HR.out]
    simp only
    rw [HDL.out]
    exact owns_base (owns_off (g0 := w.heap.size) OB.out (by omega) (fun k hk => setRow_other _ _ _ _ hk)) (by omega)
end Go.Proofs.Ytgdnjpdheghfoaa
