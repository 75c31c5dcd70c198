/- The contract of the program's RecordAt. Conditions: at most 2^21 bytes, a place of 64 bits. -/
import Derived.Test.YtgdnjpdheghfoaaFan
namespace Go.Proofs.Ytgdnjpdheghfoaa
open Go.RowKit
set_option maxRecDepth 100000

set_option maxHeartbeats 12800000 in
theorem impl_RecordAt {ad : Option Addr} {n : Nat} (cap : Nat) {zs : List Int} {w : World} (h : Reads w ad n zs) (hn : n ≤ 2097152) (hcap : n ≤ cap) (at' : Int) (h1 : -9223372036854775808 ≤ at') (h2 : at' ≤ 9223372036854775807) :
    Calls Try.prog 34 #[.slice ad n cap, .int .i64 at'] w fun e w' => ∃ v, e = .returned (.tuple #[.agg #[.int .i64 (raOf zs at').r.K, .int .i64 (raOf zs at').r.L, .int .i64 (raOf zs at').r.X, .int .i64 (raOf zs at').r.P, .int .i64 (raOf zs at').r.S, v], .int .i64 (raOf zs at').n, .int .i64 (raOf zs at').c]) ∧ w'.ownsRow w.heap.size 5 1 v (raOf zs at').r.D.length (bys (raOf zs at').r.D) ∧ Below w.heap.size w w' := by
  have hbd := fa_b_bd h.bd at'
  have hbl := fa_b_len zs at'
  have k1 := @ra_code zs at'
  have k2 := @ra_form zs at'
  have k3 := @ra_well zs at'
  have B0 := hid (Below.alloc1 w (.cells #[.int .i64 0, .int .i64 0, .int .i64 0, .int .i64 0, .int .i64 0, .slice none 0 0] 36))
  have T0 := hid (heap_alloc_new w (.cells #[.int .i64 0, .int .i64 0, .int .i64 0, .int .i64 0, .int .i64 0, .slice none 0 0] 36))
  have hsz := alloc_size w (.cells #[.int .i64 0, .int .i64 0, .int .i64 0, .int .i64 0, .int .i64 0, .slice none 0 0] 36)
  go_enter Try.func34, Try.ntmps34
  go_wp2_with fail
  generalize w.alloc (.cells #[.int .i64 0, .int .i64 0, .int .i64 0, .int .i64 0, .int .i64 0, .slice none 0 0] 36) = W0 at *
  refine (impl_FrameAt' cap (h.below B0.out (Nat.le_refl _)) hn hcap at' h1 h2).mono ?_
  rintro e w1 ⟨v, rfl, o, b⟩
  generalize hF : faOf zs at' = FA0 at *
  obtain ⟨fk, fb, fn, fc⟩ := FA0
  simp only at o hbd hbl k1 k2 k3 ⊢
  have T1 := hid ((b.block w.heap.size (by omega)).trans T0.out)
  have O1 := hid (owns_base o (show w.heap.size + 1 ≤ W0.heap.size by omega))
  have B1 := hid (B0.out.trans (b.mono B0.out.size))
  obtain ⟨va, vc, rfl⟩ := own_slice o
  have S1 := hid (show w.heap.size + 1 ≤ w1.heap.size by have := b.size; omega)
  clear o b T0 B0 hsz hF
  by_cases hc0 : fc = 0
  rotate_left
  · have HK := hid (k1 hc0)
    have q : (fc != 0) = true := by simp [hc0]
    clear k1 k2 k3 hc0
    go_wp2_with (refine wpList_store_row rfl 36 (.tmp 4) (.tmp 23) rfl w.heap.size #[.int .i64 0, .int .i64 0, .int .i64 0, .int .i64 0, .int .i64 0, .slice none 0 0] rfl rfl 36 _ T1.out ?s1 ?s2 ?s3 ?_)
    case s1 => exact sizeRc
    case s2 => rfl
    case s3 => simp [Value.oneCell']
    go_wp2_with fail
    refine bodyPost_ret (results_cell_tmp2 Try.results34 _ _ w.heap.size 36 #[.int .i64 0, .int .i64 0, .int .i64 0, .int .i64 0, .int .i64 0, .slice none 0 0] (0, 0) _ rfl (setRow_heap _ _ _ _ _ _ T1.out) Try.underlying36 rfl sizeRc) rfl ⟨.slice none 0 0, ?_, ?_, below_setRow B1.out (Nat.le_refl _) _⟩
    · rw [HK.out]; rfl
    · rw [HK.out]; exact World.ownsRow_nil _ _ _ _
  subst hc0
  by_cases h12 : fb.length < 12
  · have HK := hid (k2 rfl (by omega))
    clear k1 k2 k3
    go_wp2_with fail
    refine (recordOf_no fk va fb.length vc _ h12).mono ?_
    rintro e w2 ⟨rfl, b⟩
    replace T1 := hid ((b.block w.heap.size (by have := S1.out; omega)).trans T1.out)
    replace B1 := hid (B1.out.trans (b.mono B1.out.size))
    have bA := Below.alloc1 w2 (.cells #[.int .i64 0, .int .i64 0, .int .i64 0, .int .i64 0, .int .i64 0, .slice none 0 0] 36)
    replace T1 := hid ((bA.block w.heap.size (Array.getElem?_eq_some_iff.1 T1.out).1).trans T1.out)
    replace B1 := hid (B1.out.trans (bA.mono B1.out.size))
    clear b bA
    go_wp2_with (refine wpList_store_row rfl 36 (.tmp 4) (.tmp 33) rfl w.heap.size #[.int .i64 0, .int .i64 0, .int .i64 0, .int .i64 0, .int .i64 0, .slice none 0 0] rfl rfl 36 _ T1.out ?s1 ?s2 ?s3 ?_)
    case s1 => exact sizeRc
    case s2 => rfl
    case s3 => simp [Value.oneCell']
    go_wp2_with fail
    refine bodyPost_ret (results_cell_tmp2 Try.results34 _ _ w.heap.size 36 #[.int .i64 0, .int .i64 0, .int .i64 0, .int .i64 0, .int .i64 0, .slice none 0 0] (0, 0) _ rfl (setRow_heap _ _ _ _ _ _ T1.out) Try.underlying36 rfl sizeRc) rfl ⟨.slice none 0 0, ?_, ?_, below_setRow B1.out (Nat.le_refl _) _⟩
    · rw [HK.out]; rfl
    · rw [HK.out]; exact World.ownsRow_nil _ _ _ _
  obtain ⟨g, c', e1, rq, hcc, _⟩ := own_cap O1.out hbd (by omega)
  obtain ⟨rfl, _, rfl⟩ := Value.slice.inj e1
  have RQ := hid rq
  obtain ⟨nb, hnb⟩ : ∃ m, fb.length = m := ⟨_, rfl⟩
  have HNB := hid hnb
  rw [hnb] at h12 hcc hbl RQ ⊢
  clear e1 rq O1
  obtain ⟨ok, hok⟩ : ∃ b, okR (recOf fk fb) = b := ⟨_, rfl⟩
  have HR := hid (show recOf fk fb = ⟨fk, numOf fb 0 4, numOf fb 4 4, numOf fb 8 2, numOf fb 10 2, fb.drop 12⟩ from rfl)
  have hcall := recordOf_yes fk vc RQ.out hcc hbl (by omega)
  rw [hok] at hcall
  generalize numOf fb 0 4 = N1 at *
  generalize numOf fb 4 4 = N2 at *
  generalize numOf fb 8 2 = N3 at *
  generalize numOf fb 10 2 = N4 at *
  have HC := hid hcall
  clear hcall
  have K2 := hid (fun (h : ok = false) => k2 rfl (by rw [hok, h]; simp))
  have K3 := hid (fun (h : ok = true) => k3 rfl ⟨by rw [hnb]; omega, hok.trans h⟩)
  clear k1 k2 k3 hok hnb
  go_wp2_with fail
  refine HC.out.mono ?_
  rintro e w2 ⟨v3, rfl, o, b⟩
  replace T1 := hid ((b.block w.heap.size (by have := S1.out; omega)).trans T1.out)
  obtain ⟨a3, c3, rfl⟩ := own_slice o
  obtain ⟨m3, hm3⟩ : ∃ m, (fb.drop 12).length = m := ⟨_, rfl⟩
  rw [hm3] at o ⊢
  have O3 := hid (owns_base o (show w.heap.size + 1 ≤ w1.heap.size from S1.out))
  have HM3 := hid hm3
  replace B1 := hid (B1.out.trans (b.mono B1.out.size))
  have bA := Below.alloc1 w2 (.cells #[.int .i64 fk, .int .i64 N1, .int .i64 N2, .int .i64 N3, .int .i64 N4, .slice a3 m3 c3] 36)
  replace T1 := hid ((bA.block w.heap.size (Array.getElem?_eq_some_iff.1 T1.out).1).trans T1.out)
  replace O3 := hid (owns_below bA (Nat.le_refl _) O3.out)
  replace B1 := hid (B1.out.trans (bA.mono B1.out.size))
  have TG := hid (heap_alloc_new w2 (.cells #[.int .i64 fk, .int .i64 N1, .int .i64 N2, .int .i64 N3, .int .i64 N4, .slice a3 m3 c3] 36))
  clear b o bA hm3 HC RQ
  cases ok
  · have HK := hid (K2.out rfl)
    clear K2 K3
    go_wp2_with (refine wpList_store_row rfl 36 (.tmp 4) (.tmp 33) rfl w.heap.size #[.int .i64 0, .int .i64 0, .int .i64 0, .int .i64 0, .int .i64 0, .slice none 0 0] rfl rfl 36 _ T1.out ?s1 ?s2 ?s3 ?_)
    case s1 => exact sizeRc
    case s2 => rfl
    case s3 => simp [Value.oneCell']
    go_wp2_with fail
    refine bodyPost_ret (results_cell_tmp2 Try.results34 _ _ w.heap.size 36 #[.int .i64 0, .int .i64 0, .int .i64 0, .int .i64 0, .int .i64 0, .slice none 0 0] (0, 0) _ rfl (setRow_heap _ _ _ _ _ _ T1.out) Try.underlying36 rfl sizeRc) rfl ⟨.slice none 0 0, ?_, ?_, below_setRow B1.out (Nat.le_refl _) _⟩
    · rw [HK.out]; rfl
    · rw [HK.out]; exact World.ownsRow_nil _ _ _ _
  have HK := hid (K3.out rfl)
  clear K2 K3
  go_wp2_with (first
    | (refine wpList_load_row rfl 36 (.tmp 11) rfl w2.heap.size rfl 36 _ (0, 0) _ TG.out Try.underlying36 rfl sizeRc ?_)
    | (refine wpList_store_row rfl 36 (.tmp 4) (.tmp 34) rfl w.heap.size #[.int .i64 fk, .int .i64 N1, .int .i64 N2, .int .i64 N3, .int .i64 N4, .slice a3 m3 c3] rfl rfl 36 _ T1.out ?s1 ?s2 ?s3 ?_))
  case s1 => exact sizeRc
  case s2 => rfl
  case s3 => simp [Value.oneCell']
  go_wp2_with fail
  refine bodyPost_ret (results_cell_tmp2 Try.results34 _ _ w.heap.size 36 #[.int .i64 fk, .int .i64 N1, .int .i64 N2, .int .i64 N3, .int .i64 N4, .slice a3 m3 c3] (0, 0) _ rfl (setRow_heap _ _ _ _ _ _ T1.out) Try.underlying36 rfl sizeRc) rfl ⟨.slice a3 m3 c3, ?_, ?_, below_setRow B1.out (Nat.le_refl _) _⟩
  · rw [HK.out, HR.out]; rfl
  · rw [HK.out, HR.out]
    simp only
    rw [HM3.out]
    exact owns_base (owns_off O3.out (Nat.lt_succ_self _) (fun k hk => setRow_other _ _ _ _ hk)) (Nat.le_succ _)
end Go.Proofs.Ytgdnjpdheghfoaa
