/- The program's ItemRead. Conditions: at most 2^20 bytes; the library's variables are as its text lays them. -/
import Derived.Test.YtoppccfgcccijaaDoorYi18
namespace Go.Proofs.YtoppccfgcccijaaDoor
open Go.RowKit
set_option maxRecDepth 100000

set_option maxHeartbeats 3200000 in
theorem impl_ItemRead {ad : Option Addr} {n : Nat} (cap : Nat) {zs : List Int} {w : World} (h : Reads w ad n zs) (hn : n ≤ 1048576) (ht : LibT w) {RK RN : Int} {RF : Nat} {RZ : List Int} {ok : Bool} (hR : ansI zs = (RK, RN, RF, RZ, ok)) :
    Calls Tryd.prog 17 #[.slice ad n cap] w fun e w' => ∃ (f' : Nat) (v : Value), e = .returned (.tuple #[.agg #[.int .i64 RK, .int .i64 RN, .float .f64 f', v], .bool ok]) ∧ f' < 18446744073709551616 ∧ Hid (Same RF f') ∧ w'.ownsRow w.heap.size 5 1 v RZ.length (bys RZ) ∧ Below w.heap.size w w' := by
  have HA := hid h
  have hl := h.len
  have HB0 := hid (Below.alloc1 w (.cells #[.int .i64 0, .int .i64 0, .float .f64 0, .slice none 0 0] 28))
  have HN0 := hid (heap_alloc_new w (.cells #[.int .i64 0, .int .i64 0, .float .f64 0, .slice none 0 0] 28))
  have HZ0 := hid (alloc_size w (.cells #[.int .i64 0, .int .i64 0, .float .f64 0, .slice none 0 0] 28))
  have HT := hid (ht.below HB0.out (Nat.le_refl _))
  have HTw := hid ht
  have HR := hid hR
  have HBy := hid (show byteL zs from h.bd)
  have hcv := (h.below HB0.out (Nat.le_refl _)).str cap 23 Tryd.underlying23 Tryd.underlying5 Tryd.underlying9
  have hst0 := fun w a m => run_store Tryd.prog w a (.float .f64 0) m rfl
  clear h ht hR
  go_enter Tryd.func17, Tryd.ntmps17
  go_wp2_with fail
  refine (impl_itemOfWord HBy.out (by omega) HT.out).mono ?_
  rintro e w1 ⟨K, N, f, v, Z, rfl, hw⟩
  obtain ⟨av, cv, rfl⟩ := own_sl18 hw.own
  have HW := hid hw
  have HB1 := hid (HB0.out.trans (hw.bel.mono HB0.out.size))
  have HN1 := hid ((hw.bel.block w.heap.size (by have := HZ0.out; omega)).trans HN0.out)
  have HS1 := hid (show w.heap.size + 1 ≤ w1.heap.size by have := HZ0.out; have := hw.bel.size; omega)
  have HBA := hid (HB1.out.trans ((Below.alloc1 w1 (.cells #[.int .i64 K, .int .i64 N, .float .f64 f, .slice av Z.length cv] 28)).mono HB1.out.size))
  have HNA := hid (heap_alloc_new w1 (.cells #[.int .i64 K, .int .i64 N, .float .f64 f, .slice av Z.length cv] 28))
  have HOA := hid (hw.own.alloc (.cells #[.int .i64 K, .int .i64 N, .float .f64 f, .slice av Z.length cv] 28))
  have HN2 := hid (((Below.alloc1 w1 (.cells #[.int .i64 K, .int .i64 N, .float .f64 f, .slice av Z.length cv] 28)).block w.heap.size (by have := HS1.out; omega)).trans HN1.out)
  have hstf := fun w a m => run_store Tryd.prog w a (.float .f64 f) m rfl
  have HZA := hid (alloc_size w1 (.cells #[.int .i64 K, .int .i64 N, .float .f64 f, .slice av Z.length cv] 28))
  clear hw hcv
  go_wp2_with fail
  generalize w1.alloc (.cells #[.int .i64 K, .int .i64 N, .float .f64 f, .slice av Z.length cv] 28) = U at *
  obtain ⟨g4, hg4⟩ : ∃ g, w1.heap.size = g := ⟨_, rfl⟩
  have HG4 := hid hg4
  rw [hg4] at HNA HZA HS1
  try simp only [hg4]
  clear hg4
  obtain ⟨_, _, e1, qv, _⟩ := Reads.own HOA.out HW.out.bz
  obtain ⟨rfl, _, rfl⟩ := Value.slice.inj e1
  have HTU := hid (HTw.out.below HBA.out (Nat.le_refl _))
  have hzl : Z.length ≤ 2097152 := by have := HW.out.ln; omega
  refine (impl_ItemText K N f cv qv hzl HW.out.bn HW.out.bf HTU.out.pow).mono ?_
  rintro e w2 ⟨vt, rfl, ot, b⟩
  obtain ⟨at', ct, rfl, qt, _⟩ := Reads.ownF ot (txtI_byte HW.out.bn HW.out.bz)
  have HB2 := hid (HBA.out.trans (b.mono HBA.out.size))
  have HN3 := hid ((b.block w.heap.size (by have := HZA.out; have := HS1.out; omega)).trans HN2.out)
  have HN4 := hid ((b.block g4 (by have := HZA.out; omega)).trans HNA.out)
  have HO2 := hid (owns_below b (Nat.le_refl _) HOA.out)
  have HQ2 := hid qt
  have HA2 := hid (HA.out.below HB2.out (Nat.le_refl _))
  clear b ot qt qv e1
  go_wp2_with fail
  refine (bytes_equal ct cap HQ2.out HA2.out).mono ?_
  rintro e w3 ⟨rfl, e3⟩
  subst e3
  have k0 : w3.cell? ⟨g4, 0, none⟩ = some (.int .i64 K) := by rw [cell_of_row _ _ _ _ _ _ HN4.out]; rfl
  have k1 : w3.cell? ⟨g4, 1, none⟩ = some (.int .i64 N) := by rw [cell_of_row _ _ _ _ _ _ HN4.out]; rfl
  have k2 : w3.cell? ⟨g4, 2, none⟩ = some (.float .f64 f) := by rw [cell_of_row _ _ _ _ _ _ HN4.out]; rfl
  have k3 : w3.cell? ⟨g4, 3, none⟩ = some (.slice av Z.length cv) := by rw [cell_of_row _ _ _ _ _ _ HN4.out]; rfl
  by_cases he : txtI K N f Z = zs
  · rw [decide_eq_true he]
    have HI := hid (show ItB K N f Z from MidI.ok HW.out.bn HW.out.bf HW.out.bz he (by
      rcases Nat.eq_zero_or_pos zs.length with h0 | h0
      · exact absurd (he.trans (List.eq_nil_of_length_eq_zero h0)) (HW.out.emp h0)
      · exact h0))
    obtain ⟨rfl, rfl, rfl, hs, rfl⟩ := ansI_yes HR.out HI.out he
    have HSm := hid hs
    clear he hs
    go_wp2_with (refine wpList_store_row rfl 28 (.tmp 2) _ rfl w.heap.size #[.int .i64 RK, .int .i64 RN, .float .f64 f, .slice av RZ.length cv] rfl rfl 28 _ HN3.out size28 rfl (by simp [Value.oneCell']) ?_)
    go_wp2_with fail
    exact bodyPost_ret (results_cell_tmp18 Tryd.results17 _ _ w.heap.size 28 #[.int .i64 RK, .int .i64 RN, .float .f64 f, .slice av RZ.length cv] (0, 0) _ rfl (setRow_heap _ _ _ _ _ _ HN3.out) Tryd.underlying28 rfl size28) rfl ⟨f, .slice av RZ.length cv, rfl, HW.out.bf, HSm, owns_lower (HO2.out.kept (set_grown18 _ _ _) (.inr (fun e => by have := (HO2.out.lt _ e).1; have := HZ0.out; omega))) (by have := HZ0.out; omega), below_setRow HB2.out (Nat.le_refl _) _⟩
  · rw [decide_eq_false he]
    obtain ⟨rfl, rfl, rfl, rfl, rfl⟩ := ansI_no HR.out (fun K' N' f' Z' hi e => he (HW.out.cand K' N' f' Z' hi e))
    clear he
    go_wp2_with (refine wpList_store_row rfl 28 (.tmp 2) _ rfl w.heap.size #[.int .i64 0, .int .i64 0, .float .f64 0, .slice none 0 0] rfl rfl 28 _ HN3.out size28 rfl (by simp [Value.oneCell']) ?_)
    go_wp2_with fail
    exact bodyPost_ret (results_cell_tmp18 Tryd.results17 _ _ w.heap.size 28 #[.int .i64 0, .int .i64 0, .float .f64 0, .slice none 0 0] (0, 0) _ rfl (setRow_heap _ _ _ _ _ _ HN3.out) Tryd.underlying28 rfl size28) rfl ⟨0, .slice none 0 0, rfl, by omega, hid (Same.refl _), nil_owns18 _ _, below_setRow HB2.out (Nat.le_refl _) _⟩
end Go.Proofs.YtoppccfgcccijaaDoor
