/- The specification's number out of decimal digits. Conditions: at most 2^21 bytes. -/
import Derived.Test.YtoppccfgcccijaaDoorXd18
import Derived.Test.YtoppccfgcccijaaDoorSb
import Derived.Test.YtoppccfgcccijaaDoorRk3
import Derived.Deep.DeepCutAuto
namespace Go.Proofs.YtoppccfgcccijaaDoor
open Go.RowKit
set_option maxRecDepth 100000

theorem lowD_len2 : ∀ (f m n : Nat), 1 ≤ m → n < 10 ^ m → (lowD f n).length ≤ m
  | 0, m, n, hm, _ => by simp [lowD]; exact hm
  | f + 1, m, n, hm, h => by
    by_cases hn : 9 < n
    · cases m with
      | zero => omega
      | succ m =>
        rw [lowD_big hn, List.length_cons]
        cases m with
        | zero => simp at h; omega
        | succ m =>
          have := lowD_len2 f (m + 1) (n / 10) (by omega) (by rw [Nat.pow_succ] at h; omega)
          omega
    · rw [lowD_one hn]; simpa using hm
theorem decI_len20 {n : Int} (h : -9223372036854775808 ≤ n ∧ n ≤ 9223372036854775807) : (decI n).length ≤ 20 := by
  unfold decI
  split
  · rw [List.length_cons]
    unfold decN
    rw [List.length_reverse]
    have := lowD_len2 20 19 (-n).toNat (by omega) (by omega)
    omega
  · unfold decN
    rw [List.length_reverse]
    have := lowD_len2 20 19 n.toNat (by omega) (by omega)
    omega
/-- The digits' value, as the specification adds it up. -/
def valU (L : List Int) : Int := L.foldl (fun a z => (a * 10 % 18446744073709551616 + (z - 48)) % 18446744073709551616) 0
theorem valU_app (L : List Int) (z : Int) : valU (L ++ [z]) = (valU L * 10 % 18446744073709551616 + (z - 48)) % 18446744073709551616 := by unfold valU; rw [List.foldl_append]; rfl
theorem valU_bd (L : List Int) : 0 ≤ valU L ∧ valU L < 18446744073709551616 := by
  unfold valU
  rcases List.eq_nil_or_concat L with rfl | ⟨L', z, rfl⟩
  · simp
  · rw [List.concat_eq_append, List.foldl_append]; simp only [List.foldl_cons, List.foldl_nil]; omega
theorem valU_low : ∀ (f n : Nat), n < 18446744073709551616 → valU (lowD f n).reverse = n
  | 0, n, h => by simp [lowD, valU]; omega
  | f + 1, n, h => by
    by_cases hn : 9 < n
    · rw [lowD_big hn, List.reverse_cons, valU_app, valU_low f (n / 10) (by omega)]; omega
    · rw [lowD_one hn]; simp [valU]; omega
theorem valU_dec {n : Nat} (h : n ≤ 9223372036854775808) : valU (decN n) = n := valU_low 20 n (by omega)
theorem decI_neg {y : Int} (h : -9223372036854775808 ≤ y ∧ y ≤ 9223372036854775807) {zs : List Int} (e : decI y = zs) (hz : zs.getD 0 0 = 45) : y < 0 ∧ zs.drop 1 = decN (-y).toNat := by
  unfold decI at e
  split at e
  · subst e; exact ⟨by assumption, rfl⟩
  · exfalso
    subst e
    have hl := (decN_len y.toNat).1
    have := decN_bd (n := y.toNat) (by omega) ((decN y.toNat).getD 0 0) (by rw [List.getD_eq_getElem?_getD, List.getElem?_eq_getElem hl]; exact List.getElem_mem _)
    omega
theorem decI_pos {y : Int} {zs : List Int} (e : decI y = zs) (hz : zs.getD 0 0 ≠ 45) : 0 ≤ y ∧ zs = decN y.toNat := by
  unfold decI at e
  split at e
  · subst e; exact absurd rfl hz
  · subst e; exact ⟨by omega, rfl⟩
/-- A number that is told where it is no digits' one. -/
def Tells (zs : List Int) (x : Int) : Prop := ∀ y, -9223372036854775808 ≤ y ∧ y ≤ 9223372036854775807 → decI y = zs → x = y
theorem tells_len {zs : List Int} (h : zs.length = 0 ∨ 20 < zs.length) (x : Int) : Tells zs x := fun y hy e => by
  have h1 := (decI_len y).1
  have h2 := decI_len20 hy
  rw [e] at h1 h2
  omega
theorem tells_bad {zs : List Int} {k : Nat} (hk : k < zs.length) (hz : ¬ (48 ≤ zs.getD k 0 ∧ zs.getD k 0 ≤ 57)) (hz2 : zs.getD k 0 ≠ 45 ∨ (0 < k)) (x : Int) : Tells zs x := fun y hy e => by
  by_cases h45 : zs.getD 0 0 = 45
  · obtain ⟨_, e2⟩ := decI_neg hy e h45
    by_cases hk0 : 0 < k
    · have hm := decN_bd (n := (-y).toNat) (by omega) (zs.getD k 0) (by
        rw [← e2]
        rw [List.getD_eq_getElem?_getD, List.getElem?_eq_getElem hk]
        exact List.mem_iff_getElem.2 ⟨k - 1, by rw [List.length_drop]; omega, by rw [List.getElem_drop]; congr 1; omega⟩)
      omega
    · rcases hz2 with q | q
      · obtain rfl : k = 0 := by omega
        exact absurd h45 q
      · omega
  · obtain ⟨_, e2⟩ := decI_pos e h45
    have hm := decN_bd (n := y.toNat) (by omega) (zs.getD k 0) (by
      rw [← e2, List.getD_eq_getElem?_getD, List.getElem?_eq_getElem hk]
      exact List.getElem_mem hk)
    omega
theorem tells_one {zs : List Int} (hl : zs.length = 1) (hz : zs.getD 0 0 = 45) (x : Int) : Tells zs x := fun y hy e => by
  obtain ⟨_, e2⟩ := decI_neg hy e hz
  have := (decN_len (-y).toNat).1
  rw [← e2, List.length_drop] at this
  omega
theorem tells_neg {zs : List Int} (hz : zs.getD 0 0 = 45) : Tells zs (IntKind.i64.wrap (IntKind.u64.wrap (-(valU (zs.drop 1))))) := fun y hy e => by
  obtain ⟨h0, e2⟩ := decI_neg hy e hz
  rw [e2, valU_dec (by omega)]
  simp [IntKind.wrap, IntKind.bits, IntKind.signed]
  omega
theorem tells_pos {zs : List Int} (hz : zs.getD 0 0 ≠ 45) : Tells zs (IntKind.i64.wrap (valU zs)) := fun y hy e => by
  obtain ⟨h0, e2⟩ := decI_pos e hz
  rw [e2, valU_dec (by omega)]
  simp [IntKind.wrap, IntKind.bits, IntKind.signed]
  omega
theorem wrap_bd (v : Int) : -9223372036854775808 ≤ IntKind.i64.wrap v ∧ IntKind.i64.wrap v ≤ 9223372036854775807 := by
  simp [IntKind.wrap, IntKind.bits, IntKind.signed]; omega
theorem take_drop_step (zs : List Int) {A k : Nat} (hA : A ≤ k) (hk : k < zs.length) : (zs.take (k + 1)).drop A = (zs.take k).drop A ++ [zs.getD k 0] := by
  rw [List.take_succ_eq_append_getElem hk, List.drop_append_of_le_length (by rw [List.length_take]; omega)]
  simp [List.getD, hk]
theorem decI_byte {n : Int} (h : -9223372036854775808 ≤ n ∧ n ≤ 9223372036854775807) (i : Nat) : 0 ≤ (decI n).getD i 0 ∧ (decI n).getD i 0 ≤ 255 := by
  by_cases hi : i < (decI n).length
  · have := decI_bd h ((decI n).getD i 0) (by rw [List.getD_eq_getElem?_getD, List.getElem?_eq_getElem hi]; exact List.getElem_mem hi)
    omega
  · rw [show (decI n).getD i 0 = 0 by simp [List.getD, List.getElem?_eq_none (Nat.le_of_not_lt hi)]]; omega
/-- A number and a flag are answered. -/
def RetIB (e : Ending) (x : Int) : Prop := ∃ f : Bool, e = .returned (.tuple #[.int .i64 x, .bool f])
set_option maxHeartbeats 12800000 in
theorem spec_l18number {ad : Option Addr} {n : Nat} (cap : Nat) {zs : List Int} {w : World} (h : Reads w ad n zs) (hn : n ≤ 2097152) :
    Calls Tryd.prog 34 #[.slice ad n cap] w fun e w' => ∃ x : Int, (-9223372036854775808 ≤ x ∧ x ≤ 9223372036854775807) ∧ RetIB e x ∧ Tells zs x ∧ Below w.heap.size w w' := by
  have HR := hid h
  have HBd := hid h.bd
  have HL := hid h.len
  have HB0 := hid (Below.refl w.heap.size w)
  clear h
  go_enter Tryd.func34, Tryd.ntmps34
  by_cases hn0 : n = 0
  · subst hn0
    have hd1 : decide ((0 : Int) < ((0 : Nat) : Int)) = false := by decide
    go_wp2_with fail
    go_ret2
    exact ⟨0, by omega, ⟨false, rfl⟩, tells_len (.inl HL.out) 0, HB0.out⟩
  obtain ⟨b, off, rfl, hcell⟩ : ∃ b off, ad = some ⟨b, off, none⟩ ∧ ∀ i, i < n → w.cell? ⟨b, off + i, none⟩ = some (.int .u8 (zs.getD i 0)) := by
    rcases HR.out.cells with h0 | h1
    · exact absurd h0 hn0
    · exact h1
  have HC := hid hcell
  have c0 := hcell 0 (by omega)
  have hp : (0 : Int) < (n : Int) := by omega
  have hpb : decide ((0 : Int) < (n : Int)) = true := decide_eq_true hp
  have hz0 := HBd.out 0
  rw [Nat.add_zero] at c0
  clear hcell
  by_cases hz : zs.getD 0 0 = 45
  · have HZ0 := hid hz
    rw [hz] at c0 hz0
    by_cases h1 : n = 1
    · subst h1
      go_wp2_with fail
      go_ret2
      exact ⟨0, by omega, ⟨false, rfl⟩, tells_one HL.out HZ0.out 0, HB0.out⟩
    have h1' : ¬ (n : Int) = 1 := by omega
    by_cases h20 : 20 < n
    · have h20' : (20 : Int) < (n : Int) := by omega
      go_wp2_with fail
      go_ret2
      exact ⟨0, by omega, ⟨false, rfl⟩, tells_len (.inr (by have := HL.out; omega)) 0, HB0.out⟩
    have h20' : ¬ (20 : Int) < (n : Int) := by omega
    go_wp2_with fail
    go_loopw [5, 6] (fun v s wr => ∃ k : Nat, 1 ≤ k ∧ k ≤ n ∧ s = .int .i64 (k : Int) ∧ v = .int .u64 (valU ((zs.take k).drop 1)) ∧ Hid (Below w.heap.size w wr)) (fun _ s _ => n - (intOf s).toNat)
    case atStart => exact ⟨1, Nat.le_refl _, by omega, rfl, by rw [List.drop_of_length_le (by rw [List.length_take]; omega)]; rfl, HB0⟩
    case round =>
      obtain ⟨k, hkA, hk, rfl, rfl, HB⟩ := hrel
      by_cases hlt : k < n
      · have hlt' : (k : Int) < (n : Int) := by omega
        have hk0 : (0 : Int) ≤ (k : Int) := by omega
        have HLk := hid (show k < zs.length by have := HL.out; omega)
        have hc : wr.cell? ⟨b, off + k, none⟩ = some (.int .u8 (zs.getD k 0)) := (HB.out.cell (World.block_lt_of_cell? w _ (HC.out k hlt))).trans (HC.out k hlt)
        have hz := HBd.out k
        have HT := hid (take_drop_step zs (A := 1) hkA HLk.out)
        obtain ⟨z, hzk⟩ : ∃ z, zs.getD k 0 = z := ⟨_, rfl⟩
        rw [hzk] at hz hc HT
        have HZk := hid hzk
        obtain ⟨V, hV⟩ : ∃ V, valU ((zs.take k).drop 1) = V := ⟨_, rfl⟩
        have hVb := valU_bd ((zs.take k).drop 1)
        rw [hV] at hVb ⊢
        have HV := hid hV
        clear hzk hV
        by_cases hd : 48 ≤ z ∧ z ≤ 57
        · have hd1 : ¬ z < 48 := by omega
          have hd2 : ¬ 57 < z := by omega
          have hw1 : IntKind.u64.wrap (V * 10) = V * 10 % 18446744073709551616 := by simp [IntKind.wrap, IntKind.bits, IntKind.signed]
          have hw2 : IntKind.u8.wrap (z - 48) = z - 48 := by simp [IntKind.wrap, IntKind.bits, IntKind.signed]; omega
          have hw3 : IntKind.u64.wrap (z - 48) = z - 48 := by simp [IntKind.wrap, IntKind.bits, IntKind.signed]; omega
          have hw4 : IntKind.u64.wrap (V * 10 % 18446744073709551616 + (z - 48)) = (V * 10 % 18446744073709551616 + (z - 48)) % 18446744073709551616 := by simp [IntKind.wrap, IntKind.bits, IntKind.signed]
          have HVn := hid (show valU ((zs.take (k + 1)).drop 1) = (V * 10 % 18446744073709551616 + (z - 48)) % 18446744073709551616 by rw [HT.out, valU_app, HV.out])
          clear hd
          go_wp2_with fail
          go_roundw
          case rel => exact ⟨k + 1, by omega, by omega, by go_num, by rw [HVn.out]; try (first | rfl | simp), HB⟩
          case measure => simp [intOf]; omega
        · have HTl := hid (tells_bad HLk.out (by rw [HZk.out]; exact hd) (.inr (by omega)) 0)
          by_cases hd1 : z < 48
          · go_wp2_with fail
            go_ret2
            exact ⟨0, by omega, ⟨false, rfl⟩, HTl.out, HB.out⟩
          · have hd2 : 57 < z := by omega
            clear hd
            go_wp2_with fail
            go_ret2
            exact ⟨0, by omega, ⟨false, rfl⟩, HTl.out, HB.out⟩
      · have hlt' : ¬ (k : Int) < (n : Int) := by omega
        obtain rfl : k = n := by omega
        have hV : valU ((zs.take k).drop 1) = valU (zs.drop 1) := by rw [List.take_of_length_le (by have := HL.out; omega)]
        rw [hV]
        have HTl := hid (tells_neg HZ0.out)
        have hxb := wrap_bd (IntKind.u64.wrap (-(valU (zs.drop 1))))
        obtain ⟨X, hX⟩ : ∃ X, IntKind.i64.wrap (IntKind.u64.wrap (-(valU (zs.drop 1)))) = X := ⟨_, rfl⟩
        rw [hX] at HTl hxb
        have HXb := hid hxb
        obtain ⟨V, hVV⟩ : ∃ V, valU (zs.drop 1) = V := ⟨_, rfl⟩
        rw [hVV] at hX ⊢
        clear hV hVV hxb
        go_upto_region 16 with fail
        clear hX
        have BC := hid ((Still.drew wr).below wr.heap.size)
        have HS := hid (show ∀ W, Below wr.heap.size wr W → (convert 23 9 (.slice (some ⟨b, off, none⟩) k cap)).run Tryd.prog W = .ok (.string (str zs)) W from fun W bb => (HR.out.below (HB.out.trans (bb.mono HB.out.size)) (Nat.le_refl _)).str cap 23 Tryd.underlying23 Tryd.underlying5 Tryd.underlying9)
        refine region_K 99 (fun W => (convert 23 9 (.slice (some ⟨b, off, none⟩) k cap)).run Tryd.prog W = .ok (.string (str zs)) W) (by kernel_rfl) (HS.out _ BC.out) (fun hHeld => ?_)
        generalize wr.drew = vd at *
        refine anyK_take2 (i := 0) (v := ?v0_1) rfl (by kernel_rfl) (by kernel_rfl) (by kernel_rfl) (by rfl) (fun _ _ _ h => h) (by rfl) hHeld ?hy0_1 (some 61) (by rfl) ?rest0_1
        case hy0_1 => (intro W hSw; obtain x0 := hSw; go_simp; (try with_reducible rfl))
        try simp only [Act.put, List.setIfInBounds_toArray, List.set_cons_succ, List.set_cons_zero]
        refine anyK_take2 (i := 1) (v := ?v1_2) rfl (by kernel_rfl) (by kernel_rfl) (by kernel_rfl) (by rfl) (fun _ _ _ h => h) (by rfl) hHeld ?hy1_2 (some 62) (by rfl) ?rest1_2
        case hy1_2 => (intro W hSw; obtain x0 := hSw; go_simp; (try with_reducible rfl))
        try simp only [Act.put, List.setIfInBounds_toArray, List.set_cons_succ, List.set_cons_zero]
        refine anyK_take2 (i := 4) (v := ?v4_3) rfl (by kernel_rfl) (by kernel_rfl) (by kernel_rfl) (by rfl) (fun _ _ _ h => h) (by rfl) hHeld ?hy4_3 (some 65) (by rfl) ?rest4_3
        case hy4_3 => (intro W hSw; obtain x0 := hSw; go_simp; (try with_reducible rfl))
        try simp only [Act.put, List.setIfInBounds_toArray, List.set_cons_succ, List.set_cons_zero]
        refine anyK_take2 (i := 5) (v := ?v5_4) rfl (by kernel_rfl) (by kernel_rfl) (by kernel_rfl) (by rfl) (fun _ _ _ h => h) (by rfl) hHeld ?hy5_4 (some 66) (by rfl) ?rest5_4
        case hy5_4 => (intro W hSw; obtain x0 := hSw; go_simp; (try with_reducible rfl))
        try simp only [Act.put, List.setIfInBounds_toArray, List.set_cons_succ, List.set_cons_zero]
        refine anyK_step (i := 2) (by kernel_rfl) rfl (fun KP hK => ?_)
        go_simp
        refine (spec_l18digits X _ HXb.out).mono ?_
        rintro e v1 ⟨v, rfl, nb, b1⟩
        obtain ⟨ac, cc, rfl, rd⟩ := nb.rd (decI_byte HXb.out)
        replace BC := hid (BC.out.trans (b1.mono BC.out.size))
        have HRd := hid rd
        clear rd nb b1 hHeld
        go_wp2_with fail
        refine hK.out _ _ (HS.out _ BC.out) (fun hHeld => ?_)
        clear hK KP
        try simp only [Act.put, List.setIfInBounds_toArray, List.set_cons_succ, List.set_cons_zero]
        have HS2 := hid (HRd.out.str cc 23 Tryd.underlying23 Tryd.underlying5 Tryd.underlying9)
        have HBf := hid (HB.out.trans (BC.out.mono HB.out.size))
        refine anyK_more (fun W => (convert 23 9 (.slice (some ⟨b, off, none⟩) k cap)).run Tryd.prog W = .ok (.string (str zs)) W ∧ (convert 23 9 (.slice ac (decI X).length cc)).run Tryd.prog W = .ok (.string (str (decI X))) W) (fun _ h => h.1) ⟨hHeld, HS2.out⟩ (fun hHeld => ?_)
        refine anyK_take2 (i := 3) (v := ?v3_5) rfl (by kernel_rfl) (by kernel_rfl) (by kernel_rfl) (by rfl) (fun _ _ _ h => h) (by rfl) hHeld ?hy3_5 (some 64) (by rfl) ?rest3_5
        case hy3_5 => (intro W hSw; obtain ⟨x0, x1⟩ := hSw; go_simp; (try with_reducible rfl))
        try simp only [Act.put, List.setIfInBounds_toArray, List.set_cons_succ, List.set_cons_zero]
        refine anyK_take2 (i := 6) (v := ?v6_6) rfl (by kernel_rfl) (by kernel_rfl) (by kernel_rfl) (by rfl) (fun _ _ _ h => h) (by rfl) hHeld ?hy6_6 (some 67) (by rfl) ?rest6_6
        case hy6_6 => (intro W hSw; obtain ⟨x0, x1⟩ := hSw; go_simp; (try with_reducible rfl))
        try simp only [Act.put, List.setIfInBounds_toArray, List.set_cons_succ, List.set_cons_zero]
        refine anyK_take2 (i := 7) (v := ?v7_7) rfl (by kernel_rfl) (by kernel_rfl) (by kernel_rfl) (by rfl) (fun _ _ _ h => h) (by rfl) hHeld ?hy7_7 (some 2) (by rfl) ?rest7_7
        case hy7_7 => (intro W hSw; obtain ⟨x0, x1⟩ := hSw; go_simp; (try with_reducible rfl))
        try simp only [Act.put, List.setIfInBounds_toArray, List.set_cons_succ, List.set_cons_zero]
        refine anyK_take2 (i := 8) (v := ?v8_8) rfl (by kernel_rfl) (by kernel_rfl) (by kernel_rfl) (by rfl) (fun _ _ _ h => h) (by rfl) hHeld ?hy8_8 (some 3) (by rfl) ?rest8_8
        case hy8_8 => (intro W hSw; obtain ⟨x0, x1⟩ := hSw; go_simp; (try with_reducible rfl))
        try simp only [Act.put, List.setIfInBounds_toArray, List.set_cons_succ, List.set_cons_zero]
        refine anyK_done (by kernel_rfl) ?_ _
        go_wp2_with fail
        go_ret2
        exact ⟨X, HXb.out, ⟨_, rfl⟩, HTl.out, HBf.out⟩
  · have HZ0 := hid hz
    obtain ⟨z0, hzz⟩ : ∃ z0, zs.getD 0 0 = z0 := ⟨_, rfl⟩
    rw [hzz] at c0 hz hz0
    have h0' : ¬ (n : Int) = 0 := by omega
    clear hzz
    by_cases h20 : 20 < n
    · have h20' : (20 : Int) < (n : Int) := by omega
      go_wp2_with fail
      go_ret2
      exact ⟨0, by omega, ⟨false, rfl⟩, tells_len (.inr (by have := HL.out; omega)) 0, HB0.out⟩
    have h20' : ¬ (20 : Int) < (n : Int) := by omega
    go_wp2_with fail
    go_loopw [5, 6] (fun v s wr => ∃ k : Nat, 0 ≤ k ∧ k ≤ n ∧ s = .int .i64 (k : Int) ∧ v = .int .u64 (valU ((zs.take k).drop 0)) ∧ Hid (Below w.heap.size w wr)) (fun _ s _ => n - (intOf s).toNat)
    case atStart => exact ⟨0, Nat.le_refl _, by omega, rfl, by rw [List.drop_of_length_le (by rw [List.length_take]; omega)]; rfl, HB0⟩
    case round =>
      obtain ⟨k, hkA, hk, rfl, rfl, HB⟩ := hrel
      by_cases hlt : k < n
      · have hlt' : (k : Int) < (n : Int) := by omega
        have hk0 : (0 : Int) ≤ (k : Int) := by omega
        have HLk := hid (show k < zs.length by have := HL.out; omega)
        have hc : wr.cell? ⟨b, off + k, none⟩ = some (.int .u8 (zs.getD k 0)) := (HB.out.cell (World.block_lt_of_cell? w _ (HC.out k hlt))).trans (HC.out k hlt)
        have hz := HBd.out k
        have HT := hid (take_drop_step zs (A := 0) hkA HLk.out)
        obtain ⟨z, hzk⟩ : ∃ z, zs.getD k 0 = z := ⟨_, rfl⟩
        rw [hzk] at hz hc HT
        have HZk := hid hzk
        obtain ⟨V, hV⟩ : ∃ V, valU ((zs.take k).drop 0) = V := ⟨_, rfl⟩
        have hVb := valU_bd ((zs.take k).drop 0)
        rw [hV] at hVb ⊢
        have HV := hid hV
        clear hzk hV
        by_cases hd : 48 ≤ z ∧ z ≤ 57
        · have hd1 : ¬ z < 48 := by omega
          have hd2 : ¬ 57 < z := by omega
          have hw1 : IntKind.u64.wrap (V * 10) = V * 10 % 18446744073709551616 := by simp [IntKind.wrap, IntKind.bits, IntKind.signed]
          have hw2 : IntKind.u8.wrap (z - 48) = z - 48 := by simp [IntKind.wrap, IntKind.bits, IntKind.signed]; omega
          have hw3 : IntKind.u64.wrap (z - 48) = z - 48 := by simp [IntKind.wrap, IntKind.bits, IntKind.signed]; omega
          have hw4 : IntKind.u64.wrap (V * 10 % 18446744073709551616 + (z - 48)) = (V * 10 % 18446744073709551616 + (z - 48)) % 18446744073709551616 := by simp [IntKind.wrap, IntKind.bits, IntKind.signed]
          have HVn := hid (show valU ((zs.take (k + 1)).drop 0) = (V * 10 % 18446744073709551616 + (z - 48)) % 18446744073709551616 by rw [HT.out, valU_app, HV.out])
          clear hd
          go_wp2_with fail
          go_roundw
          case rel => exact ⟨k + 1, by omega, by omega, by go_num, by rw [HVn.out]; try (first | rfl | simp), HB⟩
          case measure => simp [intOf]; omega
        · have HTl := hid (tells_bad HLk.out (by rw [HZk.out]; exact hd) (by by_cases e : 0 < k; (exact .inr e); (obtain rfl : k = 0 := (by omega); exact .inl HZ0.out)) 0)
          by_cases hd1 : z < 48
          · go_wp2_with fail
            go_ret2
            exact ⟨0, by omega, ⟨false, rfl⟩, HTl.out, HB.out⟩
          · have hd2 : 57 < z := by omega
            clear hd
            go_wp2_with fail
            go_ret2
            exact ⟨0, by omega, ⟨false, rfl⟩, HTl.out, HB.out⟩
      · have hlt' : ¬ (k : Int) < (n : Int) := by omega
        obtain rfl : k = n := by omega
        have hV : valU ((zs.take k).drop 0) = valU (zs) := by rw [List.take_of_length_le (by have := HL.out; omega)]; rfl
        rw [hV]
        have HTl := hid (tells_pos HZ0.out)
        have hxb := wrap_bd (valU zs)
        obtain ⟨X, hX⟩ : ∃ X, IntKind.i64.wrap (valU zs) = X := ⟨_, rfl⟩
        rw [hX] at HTl hxb
        have HXb := hid hxb
        obtain ⟨V, hVV⟩ : ∃ V, valU zs = V := ⟨_, rfl⟩
        rw [hVV] at hX ⊢
        clear hV hVV hxb
        go_upto_region 16 with fail
        clear hX
        have BC := hid ((Still.drew wr).below wr.heap.size)
        have HS := hid (show ∀ W, Below wr.heap.size wr W → (convert 23 9 (.slice (some ⟨b, off, none⟩) k cap)).run Tryd.prog W = .ok (.string (str zs)) W from fun W bb => (HR.out.below (HB.out.trans (bb.mono HB.out.size)) (Nat.le_refl _)).str cap 23 Tryd.underlying23 Tryd.underlying5 Tryd.underlying9)
        refine region_K 99 (fun W => (convert 23 9 (.slice (some ⟨b, off, none⟩) k cap)).run Tryd.prog W = .ok (.string (str zs)) W) (by kernel_rfl) (HS.out _ BC.out) (fun hHeld => ?_)
        generalize wr.drew = vd at *
        refine anyK_take2 (i := 0) (v := ?v0_9) rfl (by kernel_rfl) (by kernel_rfl) (by kernel_rfl) (by rfl) (fun _ _ _ h => h) (by rfl) hHeld ?hy0_9 (some 61) (by rfl) ?rest0_9
        case hy0_9 => (intro W hSw; obtain x0 := hSw; go_simp; (try with_reducible rfl))
        try simp only [Act.put, List.setIfInBounds_toArray, List.set_cons_succ, List.set_cons_zero]
        refine anyK_take2 (i := 1) (v := ?v1_10) rfl (by kernel_rfl) (by kernel_rfl) (by kernel_rfl) (by rfl) (fun _ _ _ h => h) (by rfl) hHeld ?hy1_10 (some 62) (by rfl) ?rest1_10
        case hy1_10 => (intro W hSw; obtain x0 := hSw; go_simp; (try with_reducible rfl))
        try simp only [Act.put, List.setIfInBounds_toArray, List.set_cons_succ, List.set_cons_zero]
        refine anyK_take2 (i := 4) (v := ?v4_11) rfl (by kernel_rfl) (by kernel_rfl) (by kernel_rfl) (by rfl) (fun _ _ _ h => h) (by rfl) hHeld ?hy4_11 (some 65) (by rfl) ?rest4_11
        case hy4_11 => (intro W hSw; obtain x0 := hSw; go_simp; (try with_reducible rfl))
        try simp only [Act.put, List.setIfInBounds_toArray, List.set_cons_succ, List.set_cons_zero]
        refine anyK_take2 (i := 5) (v := ?v5_12) rfl (by kernel_rfl) (by kernel_rfl) (by kernel_rfl) (by rfl) (fun _ _ _ h => h) (by rfl) hHeld ?hy5_12 (some 66) (by rfl) ?rest5_12
        case hy5_12 => (intro W hSw; obtain x0 := hSw; go_simp; (try with_reducible rfl))
        try simp only [Act.put, List.setIfInBounds_toArray, List.set_cons_succ, List.set_cons_zero]
        refine anyK_step (i := 2) (by kernel_rfl) rfl (fun KP hK => ?_)
        go_simp
        refine (spec_l18digits X _ HXb.out).mono ?_
        rintro e v1 ⟨v, rfl, nb, b1⟩
        obtain ⟨ac, cc, rfl, rd⟩ := nb.rd (decI_byte HXb.out)
        replace BC := hid (BC.out.trans (b1.mono BC.out.size))
        have HRd := hid rd
        clear rd nb b1 hHeld
        go_wp2_with fail
        refine hK.out _ _ (HS.out _ BC.out) (fun hHeld => ?_)
        clear hK KP
        try simp only [Act.put, List.setIfInBounds_toArray, List.set_cons_succ, List.set_cons_zero]
        have HS2 := hid (HRd.out.str cc 23 Tryd.underlying23 Tryd.underlying5 Tryd.underlying9)
        have HBf := hid (HB.out.trans (BC.out.mono HB.out.size))
        refine anyK_more (fun W => (convert 23 9 (.slice (some ⟨b, off, none⟩) k cap)).run Tryd.prog W = .ok (.string (str zs)) W ∧ (convert 23 9 (.slice ac (decI X).length cc)).run Tryd.prog W = .ok (.string (str (decI X))) W) (fun _ h => h.1) ⟨hHeld, HS2.out⟩ (fun hHeld => ?_)
        refine anyK_take2 (i := 3) (v := ?v3_13) rfl (by kernel_rfl) (by kernel_rfl) (by kernel_rfl) (by rfl) (fun _ _ _ h => h) (by rfl) hHeld ?hy3_13 (some 64) (by rfl) ?rest3_13
        case hy3_13 => (intro W hSw; obtain ⟨x0, x1⟩ := hSw; go_simp; (try with_reducible rfl))
        try simp only [Act.put, List.setIfInBounds_toArray, List.set_cons_succ, List.set_cons_zero]
        refine anyK_take2 (i := 6) (v := ?v6_14) rfl (by kernel_rfl) (by kernel_rfl) (by kernel_rfl) (by rfl) (fun _ _ _ h => h) (by rfl) hHeld ?hy6_14 (some 67) (by rfl) ?rest6_14
        case hy6_14 => (intro W hSw; obtain ⟨x0, x1⟩ := hSw; go_simp; (try with_reducible rfl))
        try simp only [Act.put, List.setIfInBounds_toArray, List.set_cons_succ, List.set_cons_zero]
        refine anyK_take2 (i := 7) (v := ?v7_15) rfl (by kernel_rfl) (by kernel_rfl) (by kernel_rfl) (by rfl) (fun _ _ _ h => h) (by rfl) hHeld ?hy7_15 (some 2) (by rfl) ?rest7_15
        case hy7_15 => (intro W hSw; obtain ⟨x0, x1⟩ := hSw; go_simp; (try with_reducible rfl))
        try simp only [Act.put, List.setIfInBounds_toArray, List.set_cons_succ, List.set_cons_zero]
        refine anyK_take2 (i := 8) (v := ?v8_16) rfl (by kernel_rfl) (by kernel_rfl) (by kernel_rfl) (by rfl) (fun _ _ _ h => h) (by rfl) hHeld ?hy8_16 (some 3) (by rfl) ?rest8_16
        case hy8_16 => (intro W hSw; obtain ⟨x0, x1⟩ := hSw; go_simp; (try with_reducible rfl))
        try simp only [Act.put, List.setIfInBounds_toArray, List.set_cons_succ, List.set_cons_zero]
        refine anyK_done (by kernel_rfl) ?_ _
        go_wp2_with fail
        go_ret2
        exact ⟨X, HXb.out, ⟨_, rfl⟩, HTl.out, HBf.out⟩
end Go.Proofs.YtoppccfgcccijaaDoor
