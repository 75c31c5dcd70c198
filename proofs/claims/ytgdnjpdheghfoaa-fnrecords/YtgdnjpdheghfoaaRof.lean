/- The contract of the program's recordOf. Conditions: a body of at most 1000 bytes. -/
import Derived.Test.YtgdnjpdheghfoaaRbi
import Derived.Test.YtgdnjpdheghfoaaNz
import Derived.Test.YtgdnjpdheghfoaaFat
namespace Go.Proofs.Ytgdnjpdheghfoaa
open Go.RowKit
set_option maxRecDepth 100000

theorem results_cell_tmp' {P : Program} {fn : Func} {p q : Tmp} {ty : TypeId} (h : fn.results = #[.cell p ty, .tmp q]) (tmps : Array Value) (w : World) (g : Nat) (t : TypeId) (cs : Array Value) (fr : Nat × Nat) (d : TypeDesc)
    (hp : tmps.getD p undef = .pointer (some ⟨g, 0, none⟩)) (hg : w.heap[g]? = some (.cells cs t fr))
    (hu : P.underlying ty = some d) (hd : (match d with | .struct _ | .array _ _ => true | _ => false) = true) (hi : (P.info? ty).map (·.size) = some cs.size) :
    (results fn tmps).run P w = .ok (.tuple #[.agg cs, tmps.getD q undef]) w := by
  have hp' : tmps[p]?.getD undef = .pointer (some ⟨g, 0, none⟩) := by simpa using hp
  simp [results, h, hp', asAddr, run_loadVar_row w g t ty cs fr d hg hu hd hi]
theorem results_cell_tmp2 {P : Program} {fn : Func} {p q r : Tmp} {ty : TypeId} (h : fn.results = #[.cell p ty, .tmp q, .tmp r]) (tmps : Array Value) (w : World) (g : Nat) (t : TypeId) (cs : Array Value) (fr : Nat × Nat) (d : TypeDesc)
    (hp : tmps.getD p undef = .pointer (some ⟨g, 0, none⟩)) (hg : w.heap[g]? = some (.cells cs t fr))
    (hu : P.underlying ty = some d) (hd : (match d with | .struct _ | .array _ _ => true | _ => false) = true) (hi : (P.info? ty).map (·.size) = some cs.size) :
    (results fn tmps).run P w = .ok (.tuple #[.agg cs, tmps.getD q undef, tmps.getD r undef]) w := by
  have hp' : tmps[p]?.getD undef = .pointer (some ⟨g, 0, none⟩) := by simpa using hp
  simp [results, h, hp', asAddr, run_loadVar_row w g t ty cs fr d hg hu hd hi]
theorem owns_off {w w' : World} {base g0 : Nat} {e : TypeId} {s : Nat} {v : Value} {n : Nat} {xs : List Value} (ho : w.ownsRow base e s v n xs) (hb : g0 < base) (h : ∀ k, k ≠ g0 → w'.heap[k]? = w.heap[k]?) : w'.ownsRow base e s v n xs :=
  owns_at ho (fun k hk => h k (by omega))
theorem rows1 {w : World} {g n cap : Nat} {ad : Option Addr} {zs : List Int} {t : TypeId} (hg : w.heap[g]? = some (.cells #[.slice ad n cap] t (0, 0))) (h5 : Reads w ad n zs) (hc : ad = none → cap = 0) (hm : n ≤ maxLen) :
    ReadsS w (some ⟨g, 0, none⟩) [zs] := by
  refine ⟨.inr ⟨g, 0, rfl, fun i hi => ?_⟩⟩
  rw [Nat.zero_add]
  match i, hi with
  | 0, _ => exact ⟨.slice ad n cap, by rw [cell_of_row _ _ _ _ _ _ hg]; rfl, show Row w _ zs from Row.of h5 hc hm⟩
theorem impl_joined1 {ad : Option Addr} {n c : Nat} {zs : List Int} {w : World} (h : Reads w ad n zs) (hc : ad = none → c = 0) (hn : n ≤ 2097152) :
    Calls Try.prog 57 #[.slice (some ⟨w.heap.size, 0, none⟩) 1 1] (w.alloc (.cells #[.slice ad n c] 22)) fun e w' => ∃ v, e = .returned v ∧ w'.ownsRow w.heap.size 5 1 v n (bys zs) ∧ Below w.heap.size w w' := by
  have b0 := Below.alloc1 w (.cells #[.slice ad n c] 22)
  have ht : tot [zs] = n := by simp [tot, h.len]
  refine (impl_joined (m := 1) 1 (rows1 (heap_alloc_new w (.cells #[.slice ad n c] 22)) (h.below b0 (Nat.le_refl _)) hc (by unfold maxLen; omega)) rfl (by omega) (by omega)).mono ?_
  rintro e w' ⟨v, rfl, o, b⟩
  rw [ht] at o
  exact ⟨v, rfl, by simpa using owns_base o b0.size, b0.trans (b.mono b0.size)⟩

set_option maxHeartbeats 12800000 in
theorem recordOf_yes (kind : Int) {b off n : Nat} (cap : Nat) {zs : List Int} {w : World} (h : Reads w (some ⟨b, off, none⟩) n zs) (hcap : n ≤ cap) (hn : n ≤ 1000) (h12 : 12 ≤ n) :
    Calls Try.prog 71 #[.int .i64 kind, .slice (some ⟨b, off, none⟩) n cap] w fun e w' => ∃ v, e = .returned (.tuple #[.agg #[.int .i64 kind, .int .i64 (numOf zs 0 4), .int .i64 (numOf zs 4 4), .int .i64 (numOf zs 8 2), .int .i64 (numOf zs 10 2), v], .bool (okR (recOf kind zs))]) ∧ w'.ownsRow w.heap.size 5 1 v (zs.drop 12).length (bys (zs.drop 12)) ∧ Below w.heap.size w w' := by
  have hq : ¬ (n : Int) < 12 := by omega
  have hz : (12 : Int) ≤ (n : Int) := by omega
  have hcp : (n : Int) ≤ (cap : Int) := by omega
  have hln := h.len
  have hdl : (zs.drop 12).length = n - 12 := by simp [hln]
  have HD : Hid (Reads w (some ⟨b, off + 12, none⟩) (n - 12) (zs.drop 12)) := by
    have := h.cut 12 (n - 12) (by omega)
    rwa [show sub zs 12 (n - 12) = zs.drop 12 by unfold sub; rw [List.take_of_length_le (by omega)]] at this
  have HR := hid (show recOf kind zs = ⟨kind, numOf zs 0 4, numOf zs 4 4, numOf zs 8 2, numOf zs 10 2, zs.drop 12⟩ from rfl)
  obtain ⟨N1, e1⟩ : ∃ x, numOf zs 0 4 = x := ⟨_, rfl⟩
  obtain ⟨N2, e2⟩ : ∃ x, numOf zs 4 4 = x := ⟨_, rfl⟩
  obtain ⟨N3, e3⟩ : ∃ x, numOf zs 8 2 = x := ⟨_, rfl⟩
  obtain ⟨N4, e4⟩ : ∃ x, numOf zs 10 2 = x := ⟨_, rfl⟩
  rw [e1, e2, e3, e4] at HR ⊢
  have E1 := hid e1
  have E2 := hid e2
  have E3 := hid e3
  have E4 := hid e4
  have HDL := hid hdl
  clear e1 e2 e3 e4 hdl
  by_cases hc12 : cap = 12
  · obtain rfl := hc12
    obtain rfl : n = 12 := by omega
    have HD0 : Hid (Reads w (some ⟨b, off, none⟩) 0 (zs.drop 12)) := ⟨by have := HDL.out; omega, .inl rfl, HD.out.bd⟩
    replace HDL := hid (show (zs.drop 12).length = 0 from HDL.out)
    go_enter Try.func71, Try.ntmps71
    go_wp2_with fail
    have b0 := Below.alloc1 w (.cells #[.int .i64 0, .int .i64 0, .int .i64 0, .int .i64 0, .int .i64 0, .slice none 0 0] 36)
    have T0 := heap_alloc_new w (.cells #[.int .i64 0, .int .i64 0, .int .i64 0, .int .i64 0, .int .i64 0, .slice none 0 0] 36)
    have z0 := alloc_size w (.cells #[.int .i64 0, .int .i64 0, .int .i64 0, .int .i64 0, .int .i64 0, .slice none 0 0] 36)
    generalize w.alloc (.cells #[.int .i64 0, .int .i64 0, .int .i64 0, .int .i64 0, .int .i64 0, .slice none 0 0] 36) = W0 at *
    rw [show w.heap.size + 1 = W0.heap.size from z0.symm]
    refine (impl_joined1 (HD0.out.below b0 (Nat.le_refl _)) (fun h => by cases h) (by omega)).mono ?_
    rintro e w2 ⟨v, rfl, o, b1⟩
    obtain ⟨a2, c2, rfl⟩ := own_slice o
    have T2 := (b1.block w.heap.size (by omega)).trans T0
    have HT := hid T2
    have HO := hid (owns_base o (show w.heap.size + 1 ≤ W0.heap.size by omega))
    have HB := hid (b0.trans (b1.mono (by omega)))
    have HS := hid (show w.heap.size + 1 ≤ w2.heap.size by have := b1.size; omega)
    have HQ := hid (h.below HB.out (Nat.le_refl _))
    clear o b0 b1 T0 T2 z0
    go_wp2_with fail
    refine (impl_GetNum 12 (HQ.out.below (Below.alloc1 w2 (.cells #[.int .i64 kind, .int .i64 0, .int .i64 0, .int .i64 0, .int .i64 0, .slice a2 0 c2] 36)) (Nat.le_refl _)) (by omega) 0 4 (by omega) (by omega) (by omega)).mono ?_
    rintro e u0 ⟨rfl, rfl⟩
    rw [E1.out]
    go_wp2_with fail
    refine (impl_GetNum 12 (HQ.out.below (Below.alloc1 w2 (.cells #[.int .i64 kind, .int .i64 N1, .int .i64 0, .int .i64 0, .int .i64 0, .slice a2 0 c2] 36)) (Nat.le_refl _)) (by omega) 4 4 (by omega) (by omega) (by omega)).mono ?_
    rintro e u1 ⟨rfl, rfl⟩
    rw [E2.out]
    go_wp2_with fail
    refine (impl_GetNum 12 (HQ.out.below (Below.alloc1 w2 (.cells #[.int .i64 kind, .int .i64 N1, .int .i64 N2, .int .i64 0, .int .i64 0, .slice a2 0 c2] 36)) (Nat.le_refl _)) (by omega) 8 2 (by omega) (by omega) (by omega)).mono ?_
    rintro e u2 ⟨rfl, rfl⟩
    rw [E3.out]
    go_wp2_with fail
    refine (impl_GetNum 12 (HQ.out.below (Below.alloc1 w2 (.cells #[.int .i64 kind, .int .i64 N1, .int .i64 N2, .int .i64 N3, .int .i64 0, .slice a2 0 c2] 36)) (Nat.le_refl _)) (by omega) 10 2 (by omega) (by omega) (by omega)).mono ?_
    rintro e u3 ⟨rfl, rfl⟩
    rw [E4.out]
    go_wp2_with fail
    have bA := Below.alloc1 w2 (.cells #[.int .i64 kind, .int .i64 N1, .int .i64 N2, .int .i64 N3, .int .i64 N4, .slice a2 0 c2] 36)
    have TG := hid (heap_alloc_new w2 (.cells #[.int .i64 kind, .int .i64 N1, .int .i64 N2, .int .i64 N3, .int .i64 N4, .slice a2 0 c2] 36))
    have T1 := hid ((bA.block w.heap.size (by have := HS.out; omega)).trans HT.out)
    have O1 := hid (owns_below bA (Nat.le_refl _) HO.out)
    have B1 := hid (HB.out.trans (bA.mono HB.out.size))
    clear bA HQ HO HB HT HD
    generalize w2.alloc (.cells #[.int .i64 kind, .int .i64 N1, .int .i64 N2, .int .i64 N3, .int .i64 N4, .slice a2 0 c2] 36) = U at *
    generalize w2.heap.size = GB at *
    replace TG := hid (show U.drew.heap[GB]? = some (.cells #[.int .i64 kind, .int .i64 N1, .int .i64 N2, .int .i64 N3, .int .i64 N4, .slice a2 0 c2] 36) from TG.out)
    replace T1 := hid (show U.drew.heap[w.heap.size]? = some (.cells #[.int .i64 0, .int .i64 0, .int .i64 0, .int .i64 0, .int .i64 0, .slice none 0 0] 36) from T1.out)
    replace O1 := hid ((Still.drew U).owns O1.out)
    replace B1 := hid B1.out.drew
    refine region_K 4 (fun X => X.cell? ⟨GB, 0, none⟩ = some (.int .i64 kind) ∧ X.cell? ⟨GB, 1, none⟩ = some (.int .i64 N1) ∧ X.cell? ⟨GB, 2, none⟩ = some (.int .i64 N2) ∧ X.cell? ⟨GB, 3, none⟩ = some (.int .i64 N3) ∧ X.cell? ⟨GB, 4, none⟩ = some (.int .i64 N4) ∧ X.cell? ⟨GB, 5, none⟩ = some (.slice a2 0 c2)) (by kernel_rfl) ?_ (fun hHeld => ?_)
    · exact ⟨by rw [cell_of_row _ _ _ _ _ _ TG.out]; rfl, by rw [cell_of_row _ _ _ _ _ _ TG.out]; rfl, by rw [cell_of_row _ _ _ _ _ _ TG.out]; rfl, by rw [cell_of_row _ _ _ _ _ _ TG.out]; rfl, by rw [cell_of_row _ _ _ _ _ _ TG.out]; rfl, by rw [cell_of_row _ _ _ _ _ _ TG.out]; rfl⟩
    refine anyK_take (i := 0) (v := ?v3001) rfl (by kernel_rfl) (by kernel_rfl) (by kernel_rfl) (by kernel_rfl) (fun _ _ _ h => h) (by rfl) hHeld ?hy3001 (some 41) (by rfl) ?rest3001
    case hy3001 => (intro W hSw; (try dsimp only at hSw); go_simp; (try with_reducible rfl))
    try simp only [Act.put]
    try simp only [List.setIfInBounds_toArray]
    try simp only [List.set_cons_succ, List.set_cons_zero]
    refine anyK_take (i := 1) (v := ?v3002) rfl (by kernel_rfl) (by kernel_rfl) (by kernel_rfl) (by kernel_rfl) (fun _ _ _ h => h) (by rfl) hHeld ?hy3002 (some 42) (by rfl) ?rest3002
    case hy3002 => (intro W hSw; (try dsimp only at hSw); go_simp; (try with_reducible rfl))
    try simp only [Act.put]
    try simp only [List.setIfInBounds_toArray]
    try simp only [List.set_cons_succ, List.set_cons_zero]
    refine anyK_step (i := 2) (by kernel_rfl) rfl (fun K hK => ?_)
    go_simp
    refine (impl_RecordOk kind N1 N2 N3 N4 a2 0 c2 _).mono ?_
    rintro e u9 ⟨rfl, b⟩
    replace T1 := hid ((b.block w.heap.size (Array.getElem?_eq_some_iff.1 T1.out).1).trans T1.out)
    replace TG := hid ((b.block GB (Array.getElem?_eq_some_iff.1 TG.out).1).trans TG.out)
    replace O1 := hid (owns_below b (Nat.le_refl _) O1.out)
    replace B1 := hid (B1.out.trans (b.mono B1.out.size))
    clear b
    go_wp2_with fail
    refine hK.out _ _ ?_ (fun hH2 => ?_)
    · exact ⟨by rw [cell_of_row _ _ _ _ _ _ TG.out]; rfl, by rw [cell_of_row _ _ _ _ _ _ TG.out]; rfl, by rw [cell_of_row _ _ _ _ _ _ TG.out]; rfl, by rw [cell_of_row _ _ _ _ _ _ TG.out]; rfl, by rw [cell_of_row _ _ _ _ _ _ TG.out]; rfl, by rw [cell_of_row _ _ _ _ _ _ TG.out]; rfl⟩
    clear hK K hHeld
    have hHeld := hH2
    clear hH2
    try simp only [Act.put]
    try simp only [List.setIfInBounds_toArray]
    try simp only [List.set_cons_succ, List.set_cons_zero]
    refine anyK_step (i := 3) (by kernel_rfl) rfl (fun K hK => ?_)
    rw [if_pos (by rfl)]
    refine wp_store_row 36 (.tmp 4) (.tmp 41) rfl w.heap.size #[.int .i64 kind, .int .i64 N1, .int .i64 N2, .int .i64 N3, .int .i64 N4, .slice a2 0 c2] rfl rfl 36 _ T1.out sizeRc rfl (by simp [Value.oneCell']) ?_
    have TS : (u9.setRow w.heap.size #[.int .i64 kind, .int .i64 N1, .int .i64 N2, .int .i64 N3, .int .i64 N4, .slice a2 0 c2]).heap[GB]? = some (.cells #[.int .i64 kind, .int .i64 N1, .int .i64 N2, .int .i64 N3, .int .i64 N4, .slice a2 0 c2] 36) := by
      rw [setRow_other _ _ _ _ (by have := HS.out; omega)]
      exact TG.out
    refine hK.out _ _ ?_ (fun hH2 => ?_)
    · exact ⟨by rw [cell_of_row _ _ _ _ _ _ TS]; rfl, by rw [cell_of_row _ _ _ _ _ _ TS]; rfl, by rw [cell_of_row _ _ _ _ _ _ TS]; rfl, by rw [cell_of_row _ _ _ _ _ _ TS]; rfl, by rw [cell_of_row _ _ _ _ _ _ TS]; rfl, by rw [cell_of_row _ _ _ _ _ _ TS]; rfl⟩
    clear hK K hHeld
    have hHeld := hH2
    clear hH2
    try simp only [Act.put]
    try simp only [List.setIfInBounds_toArray]
    try simp only [List.set_cons_succ, List.set_cons_zero]
    refine anyK_last (by kernel_rfl) rfl (fun K hK => ?_)
    go_simp
    refine hK.out _ _ ?_
    clear hK K hHeld
    refine anyK_done (by kernel_rfl) ?_ _
    go_wp2_with fail
    have hkk : okR (recOf kind zs) = okRn kind N1 N2 N3 N4 0 := by rw [HR.out]; unfold okR; simp only [HDL.out]
    refine bodyPost_ret (results_cell_tmp' Try.results71 _ _ w.heap.size 36 #[.int .i64 kind, .int .i64 N1, .int .i64 N2, .int .i64 N3, .int .i64 N4, .slice a2 0 c2] (0, 0) _ rfl (setRow_heap _ _ _ _ _ _ T1.out) Try.underlying36 rfl sizeRc) rfl ⟨.slice a2 0 c2, ?_, ?_, below_setRow B1.out (Nat.le_refl _) _⟩
    · rw [hkk]; rfl
    · rw [HDL.out]
      exact owns_base (owns_off O1.out (Nat.lt_succ_self _) (fun k hk => setRow_other _ _ _ _ hk)) (Nat.le_succ _)
  go_enter Try.func71, Try.ntmps71
  go_wp2_with fail
  have b0 := Below.alloc1 w (.cells #[.int .i64 0, .int .i64 0, .int .i64 0, .int .i64 0, .int .i64 0, .slice none 0 0] 36)
  have T0 := heap_alloc_new w (.cells #[.int .i64 0, .int .i64 0, .int .i64 0, .int .i64 0, .int .i64 0, .slice none 0 0] 36)
  have z0 := alloc_size w (.cells #[.int .i64 0, .int .i64 0, .int .i64 0, .int .i64 0, .int .i64 0, .slice none 0 0] 36)
  generalize w.alloc (.cells #[.int .i64 0, .int .i64 0, .int .i64 0, .int .i64 0, .int .i64 0, .slice none 0 0] 36) = W0 at *
  rw [show w.heap.size + 1 = W0.heap.size from z0.symm]
  refine (impl_joined1 (HD.out.below b0 (Nat.le_refl _)) (fun h => by cases h) (by omega)).mono ?_
  rintro e w2 ⟨v, rfl, o, b1⟩
  obtain ⟨a2, c2, rfl⟩ := own_slice o
  have T2 := (b1.block w.heap.size (by omega)).trans T0
  have HT := hid T2
  have HO := hid (owns_base o (show w.heap.size + 1 ≤ W0.heap.size by omega))
  have HB := hid (b0.trans (b1.mono (by omega)))
  have HS := hid (show w.heap.size + 1 ≤ w2.heap.size by have := b1.size; omega)
  have HQ := hid (h.below HB.out (Nat.le_refl _))
  clear o b0 b1 T0 T2 z0
  obtain ⟨m, hm⟩ : ∃ m : Nat, n - 12 = m := ⟨_, rfl⟩
  rw [hm] at HO ⊢
  go_wp2_with fail
  refine (impl_GetNum cap (HQ.out.below (Below.alloc1 w2 (.cells #[.int .i64 kind, .int .i64 0, .int .i64 0, .int .i64 0, .int .i64 0, .slice a2 m c2] 36)) (Nat.le_refl _)) (by omega) 0 4 (by omega) (by omega) (by omega)).mono ?_
  rintro e u0 ⟨rfl, rfl⟩
  rw [E1.out]
  go_wp2_with fail
  refine (impl_GetNum cap (HQ.out.below (Below.alloc1 w2 (.cells #[.int .i64 kind, .int .i64 N1, .int .i64 0, .int .i64 0, .int .i64 0, .slice a2 m c2] 36)) (Nat.le_refl _)) (by omega) 4 4 (by omega) (by omega) (by omega)).mono ?_
  rintro e u1 ⟨rfl, rfl⟩
  rw [E2.out]
  go_wp2_with fail
  refine (impl_GetNum cap (HQ.out.below (Below.alloc1 w2 (.cells #[.int .i64 kind, .int .i64 N1, .int .i64 N2, .int .i64 0, .int .i64 0, .slice a2 m c2] 36)) (Nat.le_refl _)) (by omega) 8 2 (by omega) (by omega) (by omega)).mono ?_
  rintro e u2 ⟨rfl, rfl⟩
  rw [E3.out]
  go_wp2_with fail
  refine (impl_GetNum cap (HQ.out.below (Below.alloc1 w2 (.cells #[.int .i64 kind, .int .i64 N1, .int .i64 N2, .int .i64 N3, .int .i64 0, .slice a2 m c2] 36)) (Nat.le_refl _)) (by omega) 10 2 (by omega) (by omega) (by omega)).mono ?_
  rintro e u3 ⟨rfl, rfl⟩
  rw [E4.out]
  go_wp2_with fail
  have bA := Below.alloc1 w2 (.cells #[.int .i64 kind, .int .i64 N1, .int .i64 N2, .int .i64 N3, .int .i64 N4, .slice a2 m c2] 36)
  have TG := hid (heap_alloc_new w2 (.cells #[.int .i64 kind, .int .i64 N1, .int .i64 N2, .int .i64 N3, .int .i64 N4, .slice a2 m c2] 36))
  have T1 := hid ((bA.block w.heap.size (by have := HS.out; omega)).trans HT.out)
  have O1 := hid (owns_below bA (Nat.le_refl _) HO.out)
  have B1 := hid (HB.out.trans (bA.mono HB.out.size))
  clear bA HQ HO HB HT HD
  generalize w2.alloc (.cells #[.int .i64 kind, .int .i64 N1, .int .i64 N2, .int .i64 N3, .int .i64 N4, .slice a2 m c2] 36) = U at *
  generalize w2.heap.size = GB at *
  replace TG := hid (show U.drew.heap[GB]? = some (.cells #[.int .i64 kind, .int .i64 N1, .int .i64 N2, .int .i64 N3, .int .i64 N4, .slice a2 m c2] 36) from TG.out)
  replace T1 := hid (show U.drew.heap[w.heap.size]? = some (.cells #[.int .i64 0, .int .i64 0, .int .i64 0, .int .i64 0, .int .i64 0, .slice none 0 0] 36) from T1.out)
  replace O1 := hid ((Still.drew U).owns O1.out)
  replace B1 := hid B1.out.drew
  refine region_K 4 (fun X => X.cell? ⟨GB, 0, none⟩ = some (.int .i64 kind) ∧ X.cell? ⟨GB, 1, none⟩ = some (.int .i64 N1) ∧ X.cell? ⟨GB, 2, none⟩ = some (.int .i64 N2) ∧ X.cell? ⟨GB, 3, none⟩ = some (.int .i64 N3) ∧ X.cell? ⟨GB, 4, none⟩ = some (.int .i64 N4) ∧ X.cell? ⟨GB, 5, none⟩ = some (.slice a2 m c2)) (by kernel_rfl) ?_ (fun hHeld => ?_)
  · exact ⟨by rw [cell_of_row _ _ _ _ _ _ TG.out]; rfl, by rw [cell_of_row _ _ _ _ _ _ TG.out]; rfl, by rw [cell_of_row _ _ _ _ _ _ TG.out]; rfl, by rw [cell_of_row _ _ _ _ _ _ TG.out]; rfl, by rw [cell_of_row _ _ _ _ _ _ TG.out]; rfl, by rw [cell_of_row _ _ _ _ _ _ TG.out]; rfl⟩
  refine anyK_take (i := 0) (v := ?v3006) rfl (by kernel_rfl) (by kernel_rfl) (by kernel_rfl) (by kernel_rfl) (fun _ _ _ h => h) (by rfl) hHeld ?hy3006 (some 41) (by rfl) ?rest3006
  case hy3006 => (intro W hSw; (try dsimp only at hSw); go_simp; (try with_reducible rfl))
  try simp only [Act.put]
  try simp only [List.setIfInBounds_toArray]
  try simp only [List.set_cons_succ, List.set_cons_zero]
  refine anyK_take (i := 1) (v := ?v3007) rfl (by kernel_rfl) (by kernel_rfl) (by kernel_rfl) (by kernel_rfl) (fun _ _ _ h => h) (by rfl) hHeld ?hy3007 (some 42) (by rfl) ?rest3007
  case hy3007 => (intro W hSw; (try dsimp only at hSw); go_simp; (try with_reducible rfl))
  try simp only [Act.put]
  try simp only [List.setIfInBounds_toArray]
  try simp only [List.set_cons_succ, List.set_cons_zero]
  refine anyK_step (i := 2) (by kernel_rfl) rfl (fun K hK => ?_)
  go_simp
  refine (impl_RecordOk kind N1 N2 N3 N4 a2 m c2 _).mono ?_
  rintro e u9 ⟨rfl, b⟩
  replace T1 := hid ((b.block w.heap.size (Array.getElem?_eq_some_iff.1 T1.out).1).trans T1.out)
  replace TG := hid ((b.block GB (Array.getElem?_eq_some_iff.1 TG.out).1).trans TG.out)
  replace O1 := hid (owns_below b (Nat.le_refl _) O1.out)
  replace B1 := hid (B1.out.trans (b.mono B1.out.size))
  clear b
  go_wp2_with fail
  refine hK.out _ _ ?_ (fun hH2 => ?_)
  · exact ⟨by rw [cell_of_row _ _ _ _ _ _ TG.out]; rfl, by rw [cell_of_row _ _ _ _ _ _ TG.out]; rfl, by rw [cell_of_row _ _ _ _ _ _ TG.out]; rfl, by rw [cell_of_row _ _ _ _ _ _ TG.out]; rfl, by rw [cell_of_row _ _ _ _ _ _ TG.out]; rfl, by rw [cell_of_row _ _ _ _ _ _ TG.out]; rfl⟩
  clear hK K hHeld
  have hHeld := hH2
  clear hH2
  try simp only [Act.put]
  try simp only [List.setIfInBounds_toArray]
  try simp only [List.set_cons_succ, List.set_cons_zero]
  refine anyK_step (i := 3) (by kernel_rfl) rfl (fun K hK => ?_)
  rw [if_pos (by rfl)]
  refine wp_store_row 36 (.tmp 4) (.tmp 41) rfl w.heap.size #[.int .i64 kind, .int .i64 N1, .int .i64 N2, .int .i64 N3, .int .i64 N4, .slice a2 m c2] rfl rfl 36 _ T1.out sizeRc rfl (by simp [Value.oneCell']) ?_
  have TS : (u9.setRow w.heap.size #[.int .i64 kind, .int .i64 N1, .int .i64 N2, .int .i64 N3, .int .i64 N4, .slice a2 m c2]).heap[GB]? = some (.cells #[.int .i64 kind, .int .i64 N1, .int .i64 N2, .int .i64 N3, .int .i64 N4, .slice a2 m c2] 36) := by
    rw [setRow_other _ _ _ _ (by have := HS.out; omega)]
    exact TG.out
  refine hK.out _ _ ?_ (fun hH2 => ?_)
  · exact ⟨by rw [cell_of_row _ _ _ _ _ _ TS]; rfl, by rw [cell_of_row _ _ _ _ _ _ TS]; rfl, by rw [cell_of_row _ _ _ _ _ _ TS]; rfl, by rw [cell_of_row _ _ _ _ _ _ TS]; rfl, by rw [cell_of_row _ _ _ _ _ _ TS]; rfl, by rw [cell_of_row _ _ _ _ _ _ TS]; rfl⟩
  clear hK K hHeld
  have hHeld := hH2
  clear hH2
  try simp only [Act.put]
  try simp only [List.setIfInBounds_toArray]
  try simp only [List.set_cons_succ, List.set_cons_zero]
  refine anyK_last (by kernel_rfl) rfl (fun K hK => ?_)
  go_simp
  refine hK.out _ _ ?_
  clear hK K hHeld
  refine anyK_done (by kernel_rfl) ?_ _
  go_wp2_with fail
  have hkk : okR (recOf kind zs) = okRn kind N1 N2 N3 N4 m := by rw [HR.out]; unfold okR; simp only [HDL.out]; rw [← hm]
  refine bodyPost_ret (results_cell_tmp' Try.results71 _ _ w.heap.size 36 #[.int .i64 kind, .int .i64 N1, .int .i64 N2, .int .i64 N3, .int .i64 N4, .slice a2 m c2] (0, 0) _ rfl (setRow_heap _ _ _ _ _ _ T1.out) Try.underlying36 rfl sizeRc) rfl ⟨.slice a2 m c2, ?_, ?_, below_setRow B1.out (Nat.le_refl _) _⟩
  · rw [hkk]; rfl
  · rw [HDL.out, hm]
    exact owns_base (owns_off O1.out (Nat.lt_succ_self _) (fun k hk => setRow_other _ _ _ _ hk)) (Nat.le_succ _)
end Go.Proofs.Ytgdnjpdheghfoaa
