/- The contract of the specification's TupleBytes. Conditions: texts of at most 2^21 bytes. -/
import Derived.Test.YtebhipicfgnajaaTo
import Derived.Test.YtebhipicfgnajaaMgb
import Derived.Test.YtebhipicfgnajaaPut
import Derived.Laws.AppendOwnNone
namespace Go.Proofs.Ytebhipicfgnajaa
open Go.RowKit
set_option maxRecDepth 100000

theorem putL_four (n : Int) (h0 : 0 ≤ n) (h1 : n ≤ 4294967295) : (putL n 4).length = 4 := by
  obtain ⟨k, rfl⟩ := Int.eq_ofNat_of_zero_le h0
  have : sh k 4 = 0 := by unfold sh; exact Nat.div_eq_of_lt (by omega)
  show (putL ((k : Nat) : Int) ((4 : Nat) : Int)).length = 4
  rw [putL_yes k 4 (by omega) (by omega) this, dig_length]
theorem bytesI_len' (K N : Int) (B : Nat) (zs : List Int) (h : zs.length ≤ 40) : 0 < (bytesI K N B zs).length ∧ (bytesI K N B zs).length ≤ 41 := bytesI_len K N B zs h
theorem keyB_pos {K N : Int} {f n : Nat} {zs : List Int} (h : okK K N f n = true) (hl : zs.length = n) : 0 < (keyB K N f n zs).length ∧ (keyB K N f n zs).length ≤ 41 := by
  rw [keyB, if_pos h]
  exact bytesI_len' _ _ _ _ (by have := (okI_lim (okK_I h).1).2; omega)
theorem valB_pos {K N : Int} {f n : Nat} {zs : List Int} (h : okI K N f n = true) (h0 : K ≠ 0) (hl : zs.length = n) : 0 < (valB K N f n zs).length ∧ (valB K N f n zs).length ≤ 41 := by
  rw [valB, if_pos ⟨h, h0⟩]
  exact bytesI_len' _ _ _ _ (by have := (okI_lim h).2; omega)
theorem own_some {w : World} {base m : Nat} {v : Value} {zs : List Int} (h : w.ownsRow base 5 1 v m (bys zs)) (hbd : ∀ i, 0 ≤ zs.getD i 0 ∧ zs.getD i 0 ≤ 255) (hm : 0 < m) : ∃ g c, v = .slice (some ⟨g, 0, none⟩) m c ∧ Reads w (some ⟨g, 0, none⟩) m zs ∧ base ≤ g ∧ g < w.heap.size := by
  obtain ⟨ad, c, rfl, r, hh⟩ := Reads.own h hbd
  rcases hh with rfl | ⟨g, rfl, h1, h2⟩
  · rcases r.cells with h0 | ⟨b, o, e, _⟩
    · omega
    · cases e
  · exact ⟨g, c, rfl, r, h1, h2⟩
theorem own_slice {w : World} {base m : Nat} {e : TypeId} {s : Nat} {v : Value} {xs : List Value} (h : w.ownsRow base e s v m xs) : ∃ a c, v = .slice a m c := by
  rcases h.2 with ⟨e, e0⟩ | ⟨g, cap, cur, e, _⟩
  · exact ⟨none, 0, by rw [e, e0]⟩
  · exact ⟨_, cap, e⟩

set_option maxHeartbeats 12800000 in
theorem spec_TupleBytes (A B K N : Int) (f : Nat) {ad : Option Addr} {n : Nat} (cap : Nat) (L M : Int) (h : Nat) {ad' : Option Addr} {m : Nat} (cap' : Nat) {zs ys : List Int} {w : World} (rk : Reads w ad n zs) (rv : Reads w ad' m ys) (hnil : ad = none → cap = 0) (hnil' : ad' = none → cap' = 0) (hn : n ≤ 2097152) (hm : m ≤ 2097152) (hN : -9223372036854775808 ≤ N ∧ N ≤ 9223372036854775807) (hM : -9223372036854775808 ≤ M ∧ M ≤ 9223372036854775807) (hf : f < 18446744073709551616) (hh : h < 18446744073709551616) :
    Calls Try.prog 50 #[.agg #[.int .i64 A, .int .i64 B, .int .i64 K, .int .i64 N, .float .f64 f, .slice ad n cap, .int .i64 L, .int .i64 M, .float .f64 h, .slice ad' m cap']] w fun e w' => ∃ v, e = .returned v ∧ w'.ownsRow w.heap.size 5 1 v (bytesT A B K N f n zs L M h m ys).length (bys (bytesT A B K N f n zs L M h m ys)) ∧ Below w.heap.size w w' := by
  have HB := hid (Below.alloc1 w (.cells #[.int .i64 A, .int .i64 B, .int .i64 K, .int .i64 N, .float .f64 f, .slice ad n cap, .int .i64 L, .int .i64 M, .float .f64 h, .slice ad' m cap'] 43))
  have HX := hid (BoxT.new w A B K N f ad n cap L M h ad' m cap' 43)
  have RK := hid (rk.below HB.out (Nat.le_refl _))
  have RV := hid (rv.below HB.out (Nat.le_refl _))
  have HZ := hid (show w.heap.size + 1 ≤ (w.alloc (.cells #[.int .i64 A, .int .i64 B, .int .i64 K, .int .i64 N, .float .f64 f, .slice ad n cap, .int .i64 L, .int .i64 M, .float .f64 h, .slice ad' m cap'] 43)).heap.size from Nat.le_of_eq (alloc_size w _).symm)
  have i0 := spec_TupleOk A B K N f ad n cap L M h ad' m cap' hf hh hn hm
  obtain ⟨ok, hok⟩ : ∃ b, okT A B K N f n L M h m = b := ⟨_, rfl⟩
  rw [hok] at i0
  cases ok
  · have HE := hid (show bytesT A B K N f n zs L M h m ys = [] by unfold bytesT; rw [if_neg (by rw [hok]; simp)])
    clear hok rk rv
    go_enter Try.func50, Try.ntmps50
    go_wp2_with fail
    refine (i0 _).mono ?_
    rintro e w1 ⟨rfl, b⟩
    replace HB := hid (HB.out.trans (b.mono HB.out.size))
    clear b i0
    go_wp2_with fail
    go_ret
    exact ⟨_, rfl, by rw [HE.out]; exact World.ownsRow_nil _ _ _ _, HB.out⟩
  have HE := hid (show bytesT A B K N f n zs L M h m ys = layT A B (keyB K N f n zs) (valB L M h m ys) by unfold bytesT; rw [if_pos hok])
  obtain ⟨⟨a1, a2, a3, a4⟩, k1, v1, v2⟩ := okT_iff.1 hok
  have lk := keyB_pos (zs := zs) k1 rk.len
  have lv := valB_pos (zs := ys) v1 v2 rv.len
  have bk := (keyB_bd (K := K) (N := N) (f := f) (n := n) (zs := zs) rfl rk.bd (by have := (okI_lim (okK_I k1).1).2; have := rk.len; omega)).1
  have bv := (valB_bd (K := L) (N := M) (f := h) (n := m) (zs := ys) rfl rv.bd (by have := (okI_lim v1).2; have := rv.len; omega)).1
  have e1 := putL_four A (by omega) (by omega)
  have e2 := putL_four B (by omega) (by omega)
  have d1 := putL_bd A 4
  have d2 := putL_bd B 4
  have f1 := fun W => spec_PutNum A 4 W (by omega)
  have f2 := fun W => spec_PutNum B 4 W (by omega)
  unfold layT at HE
  have IK : Hid (∀ W : World, Reads W ad n zs → Calls Try.prog 66 #[.agg #[.int .i64 K, .int .i64 N, .float .f64 f, .slice ad n cap]] W fun e w' => ∃ v, e = .returned v ∧ w'.ownsRow W.heap.size 5 1 v (keyB K N f n zs).length (bys (keyB K N f n zs)) ∧ Below W.heap.size W w') := hid fun W r => spec_KeyBytes K N f cap hnil r hn hN.1 hN.2 hf
  have IV : Hid (∀ W : World, Reads W ad' m ys → Calls Try.prog 68 #[.agg #[.int .i64 L, .int .i64 M, .float .f64 h, .slice ad' m cap']] W fun e w' => ∃ v, e = .returned v ∧ w'.ownsRow W.heap.size 5 1 v (valB L M h m ys).length (bys (valB L M h m ys)) ∧ Below W.heap.size W w') := hid fun W r => spec_ValueBytes L M h cap' hnil' r hm hM.1 hM.2 hh
  generalize bytesT A B K N f n zs L M h m ys = RES at *
  generalize keyB K N f n zs = KB at *
  generalize valB L M h m ys = VB at *
  generalize putL A 4 = B1 at *
  generalize putL B 4 = B2 at *
  rw [e1] at f1
  rw [e2] at f2
  generalize hkl : KB.length = kl at *
  generalize hvl : VB.length = vl at *
  have wk : IntKind.u8.wrap (kl : Int) = (kl : Int) := by simp [IntKind.wrap, IntKind.bits, IntKind.signed]; omega
  have wv : IntKind.u8.wrap (vl : Int) = (vl : Int) := by simp [IntKind.wrap, IntKind.bits, IntKind.signed]; omega
  have FF := hid (And.intro f1 f2)
  have DD := hid (And.intro d1 (And.intro d2 (And.intro bk bv)))
  clear hok k1 v1 v2 f1 f2 d1 d2 bk bv rk rv
  obtain ⟨i1, hi, hz0, hz1, hz2⟩ := info_parts Try.info5
  go_enter Try.func50, Try.ntmps50
  go_wp2_with fail
  generalize w.alloc (.cells #[.int .i64 A, .int .i64 B, .int .i64 K, .int .i64 N, .float .f64 f, .slice ad n cap, .int .i64 L, .int .i64 M, .float .f64 h, .slice ad' m cap'] 43) = W0 at *
  refine (i0 _).mono ?_
  rintro e w1 ⟨rfl, b⟩
  replace HX := hid (HX.out.below b (Nat.le_refl _))
  replace RK := hid (RK.out.below b (Nat.le_refl _))
  replace RV := hid (RV.out.below b (Nat.le_refl _))
  replace HB := hid (HB.out.trans (b.mono HB.out.size))
  clear b i0 HZ
  obtain ⟨c0, c1, c2, c3, c4, c5, c6, c7, c8, c9⟩ := HX.out
  go_wp2_with fail
  clear c0 c1 c2 c3 c4 c5 c6 c7 c8 c9
  refine (IK.out _ RK.out).mono ?_
  rintro e w2 ⟨v, rfl, o, b⟩
  obtain ⟨gk, ck, rfl, r, _⟩ := own_some o DD.out.2.2.1 lk.1
  replace HX := hid (HX.out.below b (Nat.le_refl _))
  replace RV := hid (RV.out.below b (Nat.le_refl _))
  replace HB := hid (HB.out.trans (b.mono HB.out.size))
  have QK := hid r
  clear b o r IK RK
  obtain ⟨c0, c1, c2, c3, c4, c5, c6, c7, c8, c9⟩ := HX.out
  go_wp2_with fail
  clear c0 c1 c2 c3 c4 c5 c6 c7 c8 c9
  refine (IV.out _ RV.out).mono ?_
  rintro e w3 ⟨v, rfl, o, b⟩
  obtain ⟨gv, cv, rfl, r, _⟩ := own_some o DD.out.2.2.2 lv.1
  replace HX := hid (HX.out.below b (Nat.le_refl _))
  replace QK := hid (QK.out.below b (Nat.le_refl _))
  replace HB := hid (HB.out.trans (b.mono HB.out.size))
  have QV := hid r
  clear b o r IV RV
  obtain ⟨c0, c1, c2, c3, c4, c5, c6, c7, c8, c9⟩ := HX.out
  go_wp2_with fail
  clear c0 c1 c2 c3 c4 c5 c6 c7 c8 c9
  refine (FF.out.1 _).mono ?_
  rintro e w4 ⟨v, rfl, o, b⟩
  obtain ⟨a4, n4, rfl⟩ := own_slice o
  have HW := hid b
  have HO := hid o
  clear b o
  have HX4 := hid (HX.out.below HW.out (Nat.le_refl _))
  obtain ⟨c0, c1, c2, c3, c4, c5, c6, c7, c8, c9⟩ := HX4.out
  clear HX4
  go_wp2_with fail
  clear c0 c1 c2 c3 c4 c5 c6 c7 c8 c9
  refine (FF.out.2 _).mono ?_
  rintro e w5 ⟨v, rfl, o, b⟩
  obtain ⟨g5, c5, rfl, r, _⟩ := own_some o DD.out.2.1 (by omega)
  replace HO := hid (owns_below b (Nat.le_refl _) HO.out)
  replace HW := hid (HW.out.trans (b.mono HW.out.size))
  have HR := hid r
  clear b o r
  go_wp2_with (at_builtin; refine wpList_append_own _ rfl _ _ 39 rfl w3.heap.size 5 i1 (.int .u8 0) 1 1 Try.underlying39 hi hz0 hz1 hz2 rfl (by decide) _ _ _ rfl HO.out ⟨g5, 0, none⟩ 4 c5 (bys B2) rfl ?da1 HR.out.news (bys_one _) ?da3 ?da4 ?da5 ?_)
  case da1 => rw [bys_length, e2]
  case da3 => unfold maxLen; omega
  case da4 => omega
  case da5 => have := HW.out.size; simp; try omega
  intro v w6 o g _
  obtain ⟨a6, n6, rfl⟩ := own_slice o
  replace HW := hid (HW.out.grown g HW.out.size (fun k hk => (HO.out.lt k hk).1))
  replace HO := hid o
  clear o g HR
  go_wp2_with (at_builtin; refine wpList_append_own _ rfl _ _ 39 rfl w3.heap.size 5 i1 (.int .u8 0) 1 1 Try.underlying39 hi hz0 hz1 hz2 rfl (by decide) _ _ _ rfl (HO.out.alloc _) ⟨w6.heap.size, 0, none⟩ 1 1 [.int .u8 (kl : Int)] rfl ?db1 (cell_one_new _ _ _) ?db2 ?db3 ?db4 ?db5 ?_)
  case db1 => rfl
  case db2 => intro u hu; simp at hu; subst hu; rfl
  case db3 => unfold maxLen; omega
  case db4 => omega
  case db5 => have := HW.out.size; simp; try omega
  intro v w7 o g _
  obtain ⟨a7, n7, rfl⟩ := own_slice o
  replace HW := hid ((HW.out.alloc HW.out.size _).grown g (by have := HW.out.size; simp; omega) (fun k hk => (HO.out.lt k hk).1))
  replace HO := hid o
  clear o g
  have QK7 := hid (QK.out.below HW.out (Nat.le_refl _))
  go_wp2_with (at_builtin; refine wpList_append_own _ rfl _ _ 39 rfl w3.heap.size 5 i1 (.int .u8 0) 1 1 Try.underlying39 hi hz0 hz1 hz2 rfl (by decide) _ _ _ rfl HO.out ⟨gk, 0, none⟩ kl ck (bys KB) rfl ?dc1 QK7.out.news (bys_one _) ?dc3 ?dc4 ?dc5 ?_)
  case dc1 => simp [bys_length, hkl]
  case dc3 => unfold maxLen; omega
  case dc4 => omega
  case dc5 => have := HW.out.size; simp; try omega
  intro v w8 o g _
  obtain ⟨a8, n8, rfl⟩ := own_slice o
  replace HW := hid (HW.out.grown g HW.out.size (fun k hk => (HO.out.lt k hk).1))
  replace HO := hid o
  clear o g QK7
  go_wp2_with (at_builtin; refine wpList_append_own _ rfl _ _ 39 rfl w3.heap.size 5 i1 (.int .u8 0) 1 1 Try.underlying39 hi hz0 hz1 hz2 rfl (by decide) _ _ _ rfl (HO.out.alloc _) ⟨w8.heap.size, 0, none⟩ 1 1 [.int .u8 (vl : Int)] rfl ?dd1 (cell_one_new _ _ _) ?dd2 ?dd3 ?dd4 ?dd5 ?_)
  case dd1 => rfl
  case dd2 => intro u hu; simp at hu; subst hu; rfl
  case dd3 => unfold maxLen; omega
  case dd4 => omega
  case dd5 => have := HW.out.size; simp; try omega
  intro v w9 o g _
  obtain ⟨a9, n9, rfl⟩ := own_slice o
  replace HW := hid ((HW.out.alloc HW.out.size _).grown g (by have := HW.out.size; simp; omega) (fun k hk => (HO.out.lt k hk).1))
  replace HO := hid o
  clear o g
  have QV9 := hid (QV.out.below HW.out (Nat.le_refl _))
  go_wp2_with (at_builtin; refine wpList_append_own _ rfl _ _ 39 rfl w3.heap.size 5 i1 (.int .u8 0) 1 1 Try.underlying39 hi hz0 hz1 hz2 rfl (by decide) _ _ _ rfl HO.out ⟨gv, 0, none⟩ vl cv (bys VB) rfl ?de1 QV9.out.news (bys_one _) ?de3 ?de4 ?de5 ?_)
  case de1 => simp [bys_length, hvl]
  case de3 => unfold maxLen; omega
  case de4 => omega
  case de5 => have := HW.out.size; simp; try omega
  intro v w10 o g _
  obtain ⟨a10, n10, rfl⟩ := own_slice o
  replace HW := hid (HW.out.grown g HW.out.size (fun k hk => (HO.out.lt k hk).1))
  replace HO := hid o
  clear o g QV9
  go_wp2_with fail
  go_ret
  have o := HO.out
  have he : RES.length = 9 + kl + 1 + vl := by rw [HE.out]; simp only [List.length_append, e1, e2, hkl, hvl, List.length_cons, List.length_nil]; omega
  refine ⟨_, rfl, ?_, HB.out.trans (HW.out.mono HB.out.size)⟩
  rw [he, HE.out]
  refine owns_base ?_ HB.out.size
  have eb : bys (B1 ++ (B2 ++ ([(kl : Int)] ++ (KB ++ ([(vl : Int)] ++ VB))))) = bys B1 ++ (bys B2 ++ .int .u8 (kl : Int) :: (bys KB ++ .int .u8 (vl : Int) :: bys VB)) := by simp [bys]
  rw [eb]
  exact o
end Go.Proofs.Ytebhipicfgnajaa
