/- The draw of a span. For codes of at most 2^21 bytes. -/
import Derived.Test.YtjcjoabblafboaaGreatD3a
import Derived.Test.YtjcjoabblafboaaGreatMgb
import Derived.Test.YtjcjoabblafboaaGreatMga
import Derived.Test.YtjcjoabblafboaaGreatRyi
namespace Go.Proofs.YtjcjoabblafboaaGreat
open Go.RowKit
set_option maxRecDepth 100000
structure Dit (u : World) (K N : Int) (f : Nat) (v : Value) (D : List Int) : Prop where
 ry : Ry u v D
 n0 : -9223372036854775808 ≤ N ∧ N ≤ 9223372036854775807
 f0 : f < 18446744073709551616
 m0 : D.length ≤ 10000
theorem Dit.grown {u u' : World} {K N : Int} {f : Nat} {v : Value} {D : List Int} (h : Dit u K N f v D) {row : Option Nat} (hg : u.grownBy u' row) (hr : ∀ k, row = some k → ∃ cs t fz, u.heap[k]? = some (.cells cs t fz) ∧ t ≠ 5) : Dit u' K N f v D := ⟨h.ry.grown hg hr, h.n0, h.f0, h.m0⟩
theorem Dit.form {u : World} {K N : Int} {f : Nat} {v : Value} {D : List Int} (h : Dit u K N f v D) : ∃ a c, v = .slice a D.length c ∧ Reads u a D.length D ∧ (a = none → c = 0) := by
 obtain ⟨a, c, e, r, n, _⟩ := h.ry.row
 exact ⟨a, c, e, r, n⟩
structure Cg (w : World) (g : Nat) (ad : Option Addr) (n cap : Nat) (zs : List Int) (u : World) : Prop where
 cur : Cur u g ad n cap zs
 gr : w.grownBy u (some g)
 lo : g < w.heap.size
section
variable {w u u' : World} {g : Nat} {ad : Option Addr} {n cap : Nat} {zs : List Int}
theorem Cg.ty (h : Cg w g ad n cap zs u) : ∀ k, some g = some k → ∃ cs t fz, u.heap[k]? = some (.cells cs t fz) ∧ t ≠ 5 := fun k hk => by
 obtain ⟨i, hh, _, hrow⟩ := h.cur.row
 obtain rfl := Option.some.inj hk
 exact ⟨_, _, _, hrow, by decide⟩
theorem Cg.size (h : Cg w g ad n cap zs u) : w.heap.size ≤ u.heap.size := h.gr.size
theorem Cg.move (h : Cg w g ad n cap zs u) (c : Cur u' g ad n cap zs) (hg : u.grownBy u' (some g)) : Cg w g ad n cap zs u' := ⟨c, grown_trans h.gr hg, h.lo⟩
theorem Cg.new (h : Cg w g ad n cap zs u) {row : Option Nat} (hg : u.grownBy u' row) (hr : ∀ k, row = some k → w.heap.size ≤ k) : Cg w g ad n cap zs u' := ⟨h.cur.other hg (fun k hk => Nat.lt_of_lt_of_le h.lo (hr k hk)), grown_new h.gr hg hr, h.lo⟩
end
theorem grown_alloc14 (u : World) (o : Obj) : u.grownBy (u.alloc o) none := World.grownBy_alloc u o none
theorem nok {p : Nat → Prop} : ∀ k, (none : Option Nat) = some k → p k := fun k hk => by cases hk
structure AnsSp (w : World) (g : Nat) (ad : Option Addr) (n cap : Nat) (zs : List Int) (e : Ending) (w' : World) : Prop where
 ex : ∃ K1 N1 f1 a1 d1 D1 K2 N2 f2 a2 d2 D2, e = .returned (.agg #[.int .i64 K1, .int .i64 N1, .float .f64 f1, .slice a1 D1.length d1, .int .i64 K2, .int .i64 N2, .float .f64 f2, .slice a2 D2.length d2]) ∧ Dit w' K1 N1 f1 (.slice a1 (List.length D1) d1) D1 ∧ Dit w' K2 N2 f2 (.slice a2 (List.length D2) d2) D2
 cg : Cg w g ad n cap zs w'
set_option maxHeartbeats 12800000 in
theorem l13span {w : World} {g : Nat} {ad : Option Addr} {n cap : Nat} {zs : List Int} (c : Cur w g ad n cap zs) (hn : n ≤ 2097152) :
 Calls Tryz.prog 80 #[.pointer (some ⟨g, 0, none⟩)] w (AnsSp w g ad n cap zs) := by
 have HC := hid (Cg.new (w := w) ⟨c, grown_refl _ _, c.lt⟩ (grown_alloc14 w (.cells #[.int .i64 0, .int .i64 0, .float .f64 0, .slice none 0 0, .int .i64 0, .int .i64 0, .float .f64 0, .slice none 0 0] 74)) nok)
 have HT := hid (heap_alloc_new w (.cells #[.int .i64 0, .int .i64 0, .float .f64 0, .slice none 0 0, .int .i64 0, .int .i64 0, .float .f64 0, .slice none 0 0] 74))
 have HS0 := hid (show w.heap.size < (w.alloc (.cells #[.int .i64 0, .int .i64 0, .float .f64 0, .slice none 0 0, .int .i64 0, .int .i64 0, .float .f64 0, .slice none 0 0] 74)).heap.size by rw [alloc_size]; omega)
 clear c
 go_enter Tryz.func80, Tryz.ntmps80
 go_wp2_with fail
 generalize w.alloc (.cells #[.int .i64 0, .int .i64 0, .float .f64 0, .slice none 0 0, .int .i64 0, .int .i64 0, .float .f64 0, .slice none 0 0] 74) = U0 at *
 refine (l3key HC.out.cur hn).mono ?_
 rintro e w1 ⟨K1, N1, f1, v1, D1, rfl, o1, b1, m1, n1, F1, c1, g1⟩
 have I1 := hid (show Dit w1 K1 N1 f1 v1 D1 from ⟨Ry.own o1 b1, n1, F1, by omega⟩)
 obtain ⟨a1, d1, rfl, -, -⟩ := I1.out.form
 replace HT := hid ((g1.block w.heap.size HS0.out (by have := HC.out.lo; simp; omega)).trans HT.out)
 replace HC := hid (HC.out.move c1 g1)
 replace HS0 := hid (Nat.lt_of_lt_of_le HS0.out g1.size)
 clear o1 b1 m1 n1 F1 c1 g1
 go_wp2_with fail
 refine (l3key HC.out.cur hn).mono ?_
 rintro e w2 ⟨K2, N2, f2, v2, D2, rfl, o1, b1, m1, n1, F1, c1, g1⟩
 have I2 := hid (show Dit w2 K2 N2 f2 v2 D2 from ⟨Ry.own o1 b1, n1, F1, by omega⟩)
 obtain ⟨a2, d2, rfl, -, -⟩ := I2.out.form
 replace I1 := hid (I1.out.grown g1 HC.out.ty)
 replace HT := hid ((g1.block w.heap.size HS0.out (by have := HC.out.lo; simp; omega)).trans HT.out)
 replace HC := hid (HC.out.move c1 g1)
 replace HS0 := hid (Nat.lt_of_lt_of_le HS0.out g1.size)
 clear o1 b1 m1 n1 F1 c1 g1
 have hst1 := fun w a m => run_store Tryz.prog w a (.float .f64 f1) m rfl
 have hst2 := fun w a m => run_store Tryz.prog w a (.float .f64 f2) m rfl
 have hg := grown_alloc14 w2 (.cells #[.int .i64 K1, .int .i64 N1, .float .f64 f1, .slice a1 D1.length d1, .int .i64 K2, .int .i64 N2, .float .f64 f2, .slice a2 D2.length d2] 74)
 have HX := hid (heap_alloc_new w2 (.cells #[.int .i64 K1, .int .i64 N1, .float .f64 f1, .slice a1 D1.length d1, .int .i64 K2, .int .i64 N2, .float .f64 f2, .slice a2 D2.length d2] 74))
 replace I1 := hid (I1.out.grown hg nok)
 replace I2 := hid (I2.out.grown hg nok)
 replace HT := hid ((hg.block w.heap.size HS0.out (by simp)).trans HT.out)
 replace HC := hid (HC.out.new hg nok)
 have HQ := hid (show w.heap.size < w2.heap.size from HS0.out)
 have HS1 := hid (show w2.heap.size < (w2.alloc (.cells #[.int .i64 K1, .int .i64 N1, .float .f64 f1, .slice a1 D1.length d1, .int .i64 K2, .int .i64 N2, .float .f64 f2, .slice a2 D2.length d2] 74)).heap.size by rw [alloc_size]; omega)
 clear hg HS0
 go_wp2_with fail
 clear hst1 hst2
 generalize w2.alloc (.cells #[.int .i64 K1, .int .i64 N1, .float .f64 f1, .slice a1 D1.length d1, .int .i64 K2, .int .i64 N2, .float .f64 f2, .slice a2 D2.length d2] 74) = U2 at *
 obtain ⟨q1, hq1⟩ : ∃ q, w2.heap.size = q := ⟨_, rfl⟩
 rw [hq1] at HX HQ HS1
 try simp only [hq1]
 clear hq1
 refine (l1Once HC.out.cur hn 2 (by omega) (by omega)).mono ?_
 rintro e w3 ⟨bb, rfl, c1, g1⟩
 replace I1 := hid (I1.out.grown g1 HC.out.ty)
 replace I2 := hid (I2.out.grown g1 HC.out.ty)
 replace HT := hid ((g1.block w.heap.size (Nat.lt_trans HQ.out HS1.out) (by have := HC.out.lo; simp; omega)).trans HT.out)
 replace HX := hid ((g1.block q1 HS1.out (by have := HC.out.lo; have := HQ.out; simp; omega)).trans HX.out)
 replace HC := hid (HC.out.move c1 g1)
 replace HS1 := hid (Nat.lt_of_lt_of_le HS1.out g1.size)
 clear c1 g1
 have go4 : True := trivial
 clear go4
 cases bb with
 | false =>
  have k0 : w3.cell? ⟨q1, 0, none⟩ = some (.int .i64 K1) := by rw [cell_of_row _ _ _ _ _ _ HX.out]; rfl
  have k1 : w3.cell? ⟨q1, 1, none⟩ = some (.int .i64 N1) := by rw [cell_of_row _ _ _ _ _ _ HX.out]; rfl
  have k2 : w3.cell? ⟨q1, 2, none⟩ = some (.float .f64 f1) := by rw [cell_of_row _ _ _ _ _ _ HX.out]; rfl
  have k3 : w3.cell? ⟨q1, 3, none⟩ = some (.slice a1 D1.length d1) := by rw [cell_of_row _ _ _ _ _ _ HX.out]; rfl
  have k4 : w3.cell? ⟨q1, 4, none⟩ = some (.int .i64 K2) := by rw [cell_of_row _ _ _ _ _ _ HX.out]; rfl
  have k5 : w3.cell? ⟨q1, 5, none⟩ = some (.int .i64 N2) := by rw [cell_of_row _ _ _ _ _ _ HX.out]; rfl
  have k6 : w3.cell? ⟨q1, 6, none⟩ = some (.float .f64 f2) := by rw [cell_of_row _ _ _ _ _ _ HX.out]; rfl
  have k7 : w3.cell? ⟨q1, 7, none⟩ = some (.slice a2 D2.length d2) := by rw [cell_of_row _ _ _ _ _ _ HX.out]; rfl
  go_wp2_with fail
  clear k0 k1 k2 k3 k4 k5 k6 k7
  obtain ⟨ax, cx, e1, r1, -⟩ := I1.out.form
  obtain ⟨rfl, -, rfl⟩ := Value.slice.inj e1
  obtain ⟨ay, cy, e2, r2, -⟩ := I2.out.form
  obtain ⟨rfl, -, rfl⟩ := Value.slice.inj e2
  refine (spec_ItemCompare K1 N1 K2 N2 f1 f2 d1 d2 I1.out.f0 I2.out.f0 r1 r2 (by have := I1.out.m0; omega) (by have := I2.out.m0; omega)).mono ?_
  rintro e y1 ⟨rfl, b⟩
  have g1 := below_grown b
  replace I1 := hid (I1.out.grown g1 nok)
  replace I2 := hid (I2.out.grown g1 nok)
  replace HT := hid ((g1.block w.heap.size (Nat.lt_trans HQ.out HS1.out) (by simp)).trans HT.out)
  replace HX := hid ((g1.block q1 HS1.out (by simp)).trans HX.out)
  replace HC := hid (HC.out.new g1 nok)
  replace HS1 := hid (Nat.lt_of_lt_of_le HS1.out g1.size)
  clear e1 e2 r1 r2 b g1
  obtain ⟨C, hC⟩ : ∃ C, cmpI K1 N1 f1 D1.length D1 K2 N2 f2 D2.length D2 = C := ⟨_, rfl⟩
  rw [hC]
  clear hC
  by_cases hq : 0 < C
  · go_wp2_with fail
    clear hq
    refine (l1Once HC.out.cur hn 12 (by omega) (by omega)).mono ?_
    rintro e y2 ⟨b2, rfl, c1, g1⟩
    replace I1 := hid (I1.out.grown g1 HC.out.ty)
    replace I2 := hid (I2.out.grown g1 HC.out.ty)
    replace HT := hid ((g1.block w.heap.size (Nat.lt_trans HQ.out HS1.out) (by have := HC.out.lo; simp; omega)).trans HT.out)
    replace HX := hid ((g1.block q1 HS1.out (by have := HC.out.lo; have := HQ.out; simp; omega)).trans HX.out)
    replace HC := hid (HC.out.move c1 g1)
    replace HS1 := hid (Nat.lt_of_lt_of_le HS1.out g1.size)
    clear c1 g1
    cases b2 with
    | true =>
     go_wp2_with (first
      | (refine wpList_load_row rfl 74 (.tmp 3) rfl q1 rfl 74 _ (0, 0) _ HX.out Tryz.underlying74 rfl size_sp ?_)
      | (refine wpList_store_row rfl 74 (.tmp 2) (.tmp 31) rfl w.heap.size #[.int .i64 K1, .int .i64 N1, .float .f64 f1, .slice a1 D1.length d1, .int .i64 K2, .int .i64 N2, .float .f64 f2, .slice a2 D2.length d2] rfl rfl 74 _ HT.out size_sp rfl (by simp [Value.oneCell']) ?_))
     have gr := row_grown13 y2 w.heap.size #[.int .i64 K1, .int .i64 N1, .float .f64 f1, .slice a1 D1.length d1, .int .i64 K2, .int .i64 N2, .float .f64 f2, .slice a2 D2.length d2]
     have TY := hid (show ∀ k, some w.heap.size = some k → ∃ cs t fz, y2.heap[k]? = some (.cells cs t fz) ∧ t ≠ 5 from fun k hk => by cases hk; exact ⟨_, _, _, HT.out, by decide⟩)
     exact bodyPost_ret (results_cell_row Tryz.results80 _ _ w.heap.size 74 _ (0, 0) _ rfl (setRow_heap _ _ _ _ _ _ HT.out) Tryz.underlying74 rfl size_sp) rfl ⟨⟨K1, N1, f1, a1, d1, D1, K2, N2, f2, a2, d2, D2, rfl, I1.out.grown gr TY.out, I2.out.grown gr TY.out⟩, HC.out.new gr (fun k hk => by cases hk; exact Nat.le_refl _)⟩
    | false =>
     have k0 : y2.cell? ⟨q1, 0, none⟩ = some (.int .i64 K1) := by rw [cell_of_row _ _ _ _ _ _ HX.out]; rfl
     have k1 : y2.cell? ⟨q1, 1, none⟩ = some (.int .i64 N1) := by rw [cell_of_row _ _ _ _ _ _ HX.out]; rfl
     have k2 : y2.cell? ⟨q1, 2, none⟩ = some (.float .f64 f1) := by rw [cell_of_row _ _ _ _ _ _ HX.out]; rfl
     have k3 : y2.cell? ⟨q1, 3, none⟩ = some (.slice a1 D1.length d1) := by rw [cell_of_row _ _ _ _ _ _ HX.out]; rfl
     have k4 : y2.cell? ⟨q1, 4, none⟩ = some (.int .i64 K2) := by rw [cell_of_row _ _ _ _ _ _ HX.out]; rfl
     have k5 : y2.cell? ⟨q1, 5, none⟩ = some (.int .i64 N2) := by rw [cell_of_row _ _ _ _ _ _ HX.out]; rfl
     have k6 : y2.cell? ⟨q1, 6, none⟩ = some (.float .f64 f2) := by rw [cell_of_row _ _ _ _ _ _ HX.out]; rfl
     have k7 : y2.cell? ⟨q1, 7, none⟩ = some (.slice a2 D2.length d2) := by rw [cell_of_row _ _ _ _ _ _ HX.out]; rfl
     have HX2 := hid (setRow_heap y2 q1 _ #[.int .i64 K2, .int .i64 N2, .float .f64 f2, .slice a2 D2.length d2, .int .i64 K1, .int .i64 N1, .float .f64 f1, .slice a1 D1.length d1] _ _ HX.out)
     have HT2 := hid ((setRow_other y2 q1 w.heap.size #[.int .i64 K2, .int .i64 N2, .float .f64 f2, .slice a2 D2.length d2, .int .i64 K1, .int .i64 N1, .float .f64 f1, .slice a1 D1.length d1] (by have := HQ.out; omega)).trans HT.out)
     have gr := row_grown13 y2 q1 #[.int .i64 K2, .int .i64 N2, .float .f64 f2, .slice a2 D2.length d2, .int .i64 K1, .int .i64 N1, .float .f64 f1, .slice a1 D1.length d1]
     have TY := hid (show ∀ k, some q1 = some k → ∃ cs t fz, y2.heap[k]? = some (.cells cs t fz) ∧ t ≠ 5 from fun k hk => by cases hk; exact ⟨_, _, _, HX.out, by decide⟩)
     have J1 := hid (I1.out.grown gr TY.out)
     have J2 := hid (I2.out.grown gr TY.out)
     have JC := hid (HC.out.new gr (fun k hk => by cases hk; exact Nat.le_of_lt HQ.out))
     clear gr TY
     go_wp2_with (first
      | (refine wpList_store_row rfl 74 (.tmp 3) (.tmp 30) rfl q1 #[.int .i64 K2, .int .i64 N2, .float .f64 f2, .slice a2 D2.length d2, .int .i64 K1, .int .i64 N1, .float .f64 f1, .slice a1 D1.length d1] rfl rfl 74 _ HX.out size_sp rfl (by simp [Value.oneCell']) ?_)
      | (refine wpList_load_row rfl 74 (.tmp 3) rfl q1 rfl 74 _ (0, 0) _ HX2.out Tryz.underlying74 rfl size_sp ?_)
      | (refine wpList_store_row rfl 74 (.tmp 2) (.tmp 31) rfl w.heap.size #[.int .i64 K2, .int .i64 N2, .float .f64 f2, .slice a2 D2.length d2, .int .i64 K1, .int .i64 N1, .float .f64 f1, .slice a1 D1.length d1] rfl rfl 74 _ HT2.out size_sp rfl (by simp [Value.oneCell']) ?_))
     generalize y2.setRow q1 #[.int .i64 K2, .int .i64 N2, .float .f64 f2, .slice a2 D2.length d2, .int .i64 K1, .int .i64 N1, .float .f64 f1, .slice a1 D1.length d1] = y3 at *
     have gr := row_grown13 y3 w.heap.size #[.int .i64 K2, .int .i64 N2, .float .f64 f2, .slice a2 D2.length d2, .int .i64 K1, .int .i64 N1, .float .f64 f1, .slice a1 D1.length d1]
     have TY := hid (show ∀ k, some w.heap.size = some k → ∃ cs t fz, y3.heap[k]? = some (.cells cs t fz) ∧ t ≠ 5 from fun k hk => by cases hk; exact ⟨_, _, _, HT2.out, by decide⟩)
     exact bodyPost_ret (results_cell_row Tryz.results80 _ _ w.heap.size 74 _ (0, 0) _ rfl (setRow_heap _ _ _ _ _ _ HT2.out) Tryz.underlying74 rfl size_sp) rfl ⟨⟨K2, N2, f2, a2, d2, D2, K1, N1, f1, a1, d1, D1, rfl, J2.out.grown gr TY.out, J1.out.grown gr TY.out⟩, JC.out.new gr (fun k hk => by cases hk; exact Nat.le_refl _)⟩
  ·
   go_wp2_with (first
    | (refine wpList_load_row rfl 74 (.tmp 3) rfl q1 rfl 74 _ (0, 0) _ HX.out Tryz.underlying74 rfl size_sp ?_)
    | (refine wpList_store_row rfl 74 (.tmp 2) (.tmp 31) rfl w.heap.size #[.int .i64 K1, .int .i64 N1, .float .f64 f1, .slice a1 D1.length d1, .int .i64 K2, .int .i64 N2, .float .f64 f2, .slice a2 D2.length d2] rfl rfl 74 _ HT.out size_sp rfl (by simp [Value.oneCell']) ?_))
   have gr := row_grown13 y1 w.heap.size #[.int .i64 K1, .int .i64 N1, .float .f64 f1, .slice a1 D1.length d1, .int .i64 K2, .int .i64 N2, .float .f64 f2, .slice a2 D2.length d2]
   have TY := hid (show ∀ k, some w.heap.size = some k → ∃ cs t fz, y1.heap[k]? = some (.cells cs t fz) ∧ t ≠ 5 from fun k hk => by cases hk; exact ⟨_, _, _, HT.out, by decide⟩)
   exact bodyPost_ret (results_cell_row Tryz.results80 _ _ w.heap.size 74 _ (0, 0) _ rfl (setRow_heap _ _ _ _ _ _ HT.out) Tryz.underlying74 rfl size_sp) rfl ⟨⟨K1, N1, f1, a1, d1, D1, K2, N2, f2, a2, d2, D2, rfl, I1.out.grown gr TY.out, I2.out.grown gr TY.out⟩, HC.out.new gr (fun k hk => by cases hk; exact Nat.le_refl _)⟩
 | true =>
  have k0 : w3.cell? ⟨q1, 0, none⟩ = some (.int .i64 K1) := by rw [cell_of_row _ _ _ _ _ _ HX.out]; rfl
  have k1 : w3.cell? ⟨q1, 1, none⟩ = some (.int .i64 N1) := by rw [cell_of_row _ _ _ _ _ _ HX.out]; rfl
  have k2 : w3.cell? ⟨q1, 2, none⟩ = some (.float .f64 f1) := by rw [cell_of_row _ _ _ _ _ _ HX.out]; rfl
  have k3 : w3.cell? ⟨q1, 3, none⟩ = some (.slice a1 D1.length d1) := by rw [cell_of_row _ _ _ _ _ _ HX.out]; rfl
  go_wp2_with fail
  clear k0 k1 k2 k3
  obtain ⟨ax, cx, e1, r1, nl1⟩ := I1.out.form
  obtain ⟨rfl, -, rfl⟩ := Value.slice.inj e1
  refine (spec_l3copy K1 N1 f1 d1 nl1 r1 (by have := I1.out.m0; omega)).mono ?_
  rintro e w4 ⟨v5, rfl, o5, b5⟩
  have g5 := below_grown b5
  have I5 := hid (show Dit w4 K1 N1 f1 v5 D1 from ⟨Ry.own o5 r1.bd, I1.out.n0, I1.out.f0, I1.out.m0⟩)
  obtain ⟨a5, d5, rfl, -, -⟩ := I5.out.form
  clear e1 r1 nl1 I2
  replace I1 := hid (I1.out.grown g5 nok)
  replace HT := hid ((g5.block w.heap.size (Nat.lt_trans HQ.out HS1.out) (by simp)).trans HT.out)
  replace HX := hid ((g5.block q1 HS1.out (by simp)).trans HX.out)
  replace HC := hid (HC.out.new g5 nok)
  replace HS1 := hid (Nat.lt_of_lt_of_le HS1.out g5.size)
  clear o5 b5 g5
  have gr := row_grown13 w4 q1 #[.int .i64 K1, .int .i64 N1, .float .f64 f1, .slice a1 D1.length d1, .int .i64 K1, .int .i64 N1, .float .f64 f1, .slice a5 D1.length d5]
  have TY := hid (show ∀ k, some q1 = some k → ∃ cs t fz, w4.heap[k]? = some (.cells cs t fz) ∧ t ≠ 5 from fun k hk => by cases hk; exact ⟨_, _, _, HX.out, by decide⟩)
  have J1 := hid (I1.out.grown gr TY.out)
  have J2 := hid (I5.out.grown gr TY.out)
  have JT := hid ((setRow_other w4 q1 w.heap.size #[.int .i64 K1, .int .i64 N1, .float .f64 f1, .slice a1 D1.length d1, .int .i64 K1, .int .i64 N1, .float .f64 f1, .slice a5 D1.length d5] (by have := HQ.out; omega)).trans HT.out)
  have JX := hid (setRow_heap w4 q1 _ #[.int .i64 K1, .int .i64 N1, .float .f64 f1, .slice a1 D1.length d1, .int .i64 K1, .int .i64 N1, .float .f64 f1, .slice a5 D1.length d5] _ _ HX.out)
  have JC := hid (HC.out.new gr (fun k hk => by cases hk; exact Nat.le_of_lt HQ.out))
  have JS := hid (show q1 < (w4.setRow q1 #[.int .i64 K1, .int .i64 N1, .float .f64 f1, .slice a1 D1.length d1, .int .i64 K1, .int .i64 N1, .float .f64 f1, .slice a5 D1.length d5]).heap.size by simp; exact HS1.out)
  have HX4 := HX
  clear gr TY I1 I5 HT HC HS1 HX
  have I1 := J1
  have I2 := J2
  have HT := JT
  have HX := JX
  have HC := JC
  have HS1 := JS
  clear J1 J2 JT JX JC JS
  have k0 : (w4.setRow q1 #[.int .i64 K1, .int .i64 N1, .float .f64 f1, .slice a1 D1.length d1, .int .i64 K1, .int .i64 N1, .float .f64 f1, .slice a5 D1.length d5]).cell? ⟨q1, 0, none⟩ = some (.int .i64 K1) := by rw [cell_of_row _ _ _ _ _ _ HX.out]; rfl
  have k1 : (w4.setRow q1 #[.int .i64 K1, .int .i64 N1, .float .f64 f1, .slice a1 D1.length d1, .int .i64 K1, .int .i64 N1, .float .f64 f1, .slice a5 D1.length d5]).cell? ⟨q1, 1, none⟩ = some (.int .i64 N1) := by rw [cell_of_row _ _ _ _ _ _ HX.out]; rfl
  have k2 : (w4.setRow q1 #[.int .i64 K1, .int .i64 N1, .float .f64 f1, .slice a1 D1.length d1, .int .i64 K1, .int .i64 N1, .float .f64 f1, .slice a5 D1.length d5]).cell? ⟨q1, 2, none⟩ = some (.float .f64 f1) := by rw [cell_of_row _ _ _ _ _ _ HX.out]; rfl
  have k3 : (w4.setRow q1 #[.int .i64 K1, .int .i64 N1, .float .f64 f1, .slice a1 D1.length d1, .int .i64 K1, .int .i64 N1, .float .f64 f1, .slice a5 D1.length d5]).cell? ⟨q1, 3, none⟩ = some (.slice a1 D1.length d1) := by rw [cell_of_row _ _ _ _ _ _ HX.out]; rfl
  have k4 : (w4.setRow q1 #[.int .i64 K1, .int .i64 N1, .float .f64 f1, .slice a1 D1.length d1, .int .i64 K1, .int .i64 N1, .float .f64 f1, .slice a5 D1.length d5]).cell? ⟨q1, 4, none⟩ = some (.int .i64 K1) := by rw [cell_of_row _ _ _ _ _ _ HX.out]; rfl
  have k5 : (w4.setRow q1 #[.int .i64 K1, .int .i64 N1, .float .f64 f1, .slice a1 D1.length d1, .int .i64 K1, .int .i64 N1, .float .f64 f1, .slice a5 D1.length d5]).cell? ⟨q1, 5, none⟩ = some (.int .i64 N1) := by rw [cell_of_row _ _ _ _ _ _ HX.out]; rfl
  have k6 : (w4.setRow q1 #[.int .i64 K1, .int .i64 N1, .float .f64 f1, .slice a1 D1.length d1, .int .i64 K1, .int .i64 N1, .float .f64 f1, .slice a5 D1.length d5]).cell? ⟨q1, 6, none⟩ = some (.float .f64 f1) := by rw [cell_of_row _ _ _ _ _ _ HX.out]; rfl
  have k7 : (w4.setRow q1 #[.int .i64 K1, .int .i64 N1, .float .f64 f1, .slice a1 D1.length d1, .int .i64 K1, .int .i64 N1, .float .f64 f1, .slice a5 D1.length d5]).cell? ⟨q1, 7, none⟩ = some (.slice a5 D1.length d5) := by rw [cell_of_row _ _ _ _ _ _ HX.out]; rfl
  go_wp2_with (refine wpList_store_part rfl 72 (.tmp 14) (.tmp 13) rfl q1 4 #[.int .i64 K1, .int .i64 N1, .float .f64 f1, .slice a5 D1.length d5] rfl rfl 74 _ HX4.out ?s1z ?s2z ?s3z #[.int .i64 K1, .int .i64 N1, .float .f64 f1, .slice a1 D1.length d1, .int .i64 K1, .int .i64 N1, .float .f64 f1, .slice a5 D1.length d5] rfl ?_)
  case s1z => exact size_it13
  case s2z => simp
  case s3z => simp [Value.oneCell']
  clear k0 k1 k2 k3 k4 k5 k6 k7
  clear HX4
  generalize w4.setRow q1 #[.int .i64 K1, .int .i64 N1, .float .f64 f1, .slice a1 D1.length d1, .int .i64 K1, .int .i64 N1, .float .f64 f1, .slice a5 D1.length d5] = U4 at *
  obtain ⟨ax, cx, e1, r1, -⟩ := I1.out.form
  obtain ⟨rfl, -, rfl⟩ := Value.slice.inj e1
  obtain ⟨ay, cy, e2, r2, -⟩ := I2.out.form
  obtain ⟨rfl, -, rfl⟩ := Value.slice.inj e2
  refine (spec_ItemCompare K1 N1 K1 N1 f1 f1 d1 d5 I1.out.f0 I2.out.f0 r1 r2 (by have := I1.out.m0; omega) (by have := I2.out.m0; omega)).mono ?_
  rintro e y1 ⟨rfl, b⟩
  have g1 := below_grown b
  replace I1 := hid (I1.out.grown g1 nok)
  replace I2 := hid (I2.out.grown g1 nok)
  replace HT := hid ((g1.block w.heap.size (Nat.lt_trans HQ.out HS1.out) (by simp)).trans HT.out)
  replace HX := hid ((g1.block q1 HS1.out (by simp)).trans HX.out)
  replace HC := hid (HC.out.new g1 nok)
  replace HS1 := hid (Nat.lt_of_lt_of_le HS1.out g1.size)
  clear e1 e2 r1 r2 b g1
  obtain ⟨C, hC⟩ : ∃ C, cmpI K1 N1 f1 D1.length D1 K1 N1 f1 D1.length D1 = C := ⟨_, rfl⟩
  rw [hC]
  clear hC
  by_cases hq : 0 < C
  · go_wp2_with fail
    clear hq
    refine (l1Once HC.out.cur hn 12 (by omega) (by omega)).mono ?_
    rintro e y2 ⟨b2, rfl, c1, g1⟩
    replace I1 := hid (I1.out.grown g1 HC.out.ty)
    replace I2 := hid (I2.out.grown g1 HC.out.ty)
    replace HT := hid ((g1.block w.heap.size (Nat.lt_trans HQ.out HS1.out) (by have := HC.out.lo; simp; omega)).trans HT.out)
    replace HX := hid ((g1.block q1 HS1.out (by have := HC.out.lo; have := HQ.out; simp; omega)).trans HX.out)
    replace HC := hid (HC.out.move c1 g1)
    replace HS1 := hid (Nat.lt_of_lt_of_le HS1.out g1.size)
    clear c1 g1
    cases b2 with
    | true =>
     go_wp2_with (first
      | (refine wpList_load_row rfl 74 (.tmp 3) rfl q1 rfl 74 _ (0, 0) _ HX.out Tryz.underlying74 rfl size_sp ?_)
      | (refine wpList_store_row rfl 74 (.tmp 2) (.tmp 31) rfl w.heap.size #[.int .i64 K1, .int .i64 N1, .float .f64 f1, .slice a1 D1.length d1, .int .i64 K1, .int .i64 N1, .float .f64 f1, .slice a5 D1.length d5] rfl rfl 74 _ HT.out size_sp rfl (by simp [Value.oneCell']) ?_))
     have gr := row_grown13 y2 w.heap.size #[.int .i64 K1, .int .i64 N1, .float .f64 f1, .slice a1 D1.length d1, .int .i64 K1, .int .i64 N1, .float .f64 f1, .slice a5 D1.length d5]
     have TY := hid (show ∀ k, some w.heap.size = some k → ∃ cs t fz, y2.heap[k]? = some (.cells cs t fz) ∧ t ≠ 5 from fun k hk => by cases hk; exact ⟨_, _, _, HT.out, by decide⟩)
     exact bodyPost_ret (results_cell_row Tryz.results80 _ _ w.heap.size 74 _ (0, 0) _ rfl (setRow_heap _ _ _ _ _ _ HT.out) Tryz.underlying74 rfl size_sp) rfl ⟨⟨K1, N1, f1, a1, d1, D1, K1, N1, f1, a5, d5, D1, rfl, I1.out.grown gr TY.out, I2.out.grown gr TY.out⟩, HC.out.new gr (fun k hk => by cases hk; exact Nat.le_refl _)⟩
    | false =>
     have k0 : y2.cell? ⟨q1, 0, none⟩ = some (.int .i64 K1) := by rw [cell_of_row _ _ _ _ _ _ HX.out]; rfl
     have k1 : y2.cell? ⟨q1, 1, none⟩ = some (.int .i64 N1) := by rw [cell_of_row _ _ _ _ _ _ HX.out]; rfl
     have k2 : y2.cell? ⟨q1, 2, none⟩ = some (.float .f64 f1) := by rw [cell_of_row _ _ _ _ _ _ HX.out]; rfl
     have k3 : y2.cell? ⟨q1, 3, none⟩ = some (.slice a1 D1.length d1) := by rw [cell_of_row _ _ _ _ _ _ HX.out]; rfl
     have k4 : y2.cell? ⟨q1, 4, none⟩ = some (.int .i64 K1) := by rw [cell_of_row _ _ _ _ _ _ HX.out]; rfl
     have k5 : y2.cell? ⟨q1, 5, none⟩ = some (.int .i64 N1) := by rw [cell_of_row _ _ _ _ _ _ HX.out]; rfl
     have k6 : y2.cell? ⟨q1, 6, none⟩ = some (.float .f64 f1) := by rw [cell_of_row _ _ _ _ _ _ HX.out]; rfl
     have k7 : y2.cell? ⟨q1, 7, none⟩ = some (.slice a5 D1.length d5) := by rw [cell_of_row _ _ _ _ _ _ HX.out]; rfl
     have HX2 := hid (setRow_heap y2 q1 _ #[.int .i64 K1, .int .i64 N1, .float .f64 f1, .slice a5 D1.length d5, .int .i64 K1, .int .i64 N1, .float .f64 f1, .slice a1 D1.length d1] _ _ HX.out)
     have HT2 := hid ((setRow_other y2 q1 w.heap.size #[.int .i64 K1, .int .i64 N1, .float .f64 f1, .slice a5 D1.length d5, .int .i64 K1, .int .i64 N1, .float .f64 f1, .slice a1 D1.length d1] (by have := HQ.out; omega)).trans HT.out)
     have gr := row_grown13 y2 q1 #[.int .i64 K1, .int .i64 N1, .float .f64 f1, .slice a5 D1.length d5, .int .i64 K1, .int .i64 N1, .float .f64 f1, .slice a1 D1.length d1]
     have TY := hid (show ∀ k, some q1 = some k → ∃ cs t fz, y2.heap[k]? = some (.cells cs t fz) ∧ t ≠ 5 from fun k hk => by cases hk; exact ⟨_, _, _, HX.out, by decide⟩)
     have J1 := hid (I1.out.grown gr TY.out)
     have J2 := hid (I2.out.grown gr TY.out)
     have JC := hid (HC.out.new gr (fun k hk => by cases hk; exact Nat.le_of_lt HQ.out))
     clear gr TY
     go_wp2_with (first
      | (refine wpList_store_row rfl 74 (.tmp 3) (.tmp 30) rfl q1 #[.int .i64 K1, .int .i64 N1, .float .f64 f1, .slice a5 D1.length d5, .int .i64 K1, .int .i64 N1, .float .f64 f1, .slice a1 D1.length d1] rfl rfl 74 _ HX.out size_sp rfl (by simp [Value.oneCell']) ?_)
      | (refine wpList_load_row rfl 74 (.tmp 3) rfl q1 rfl 74 _ (0, 0) _ HX2.out Tryz.underlying74 rfl size_sp ?_)
      | (refine wpList_store_row rfl 74 (.tmp 2) (.tmp 31) rfl w.heap.size #[.int .i64 K1, .int .i64 N1, .float .f64 f1, .slice a5 D1.length d5, .int .i64 K1, .int .i64 N1, .float .f64 f1, .slice a1 D1.length d1] rfl rfl 74 _ HT2.out size_sp rfl (by simp [Value.oneCell']) ?_))
     generalize y2.setRow q1 #[.int .i64 K1, .int .i64 N1, .float .f64 f1, .slice a5 D1.length d5, .int .i64 K1, .int .i64 N1, .float .f64 f1, .slice a1 D1.length d1] = y3 at *
     have gr := row_grown13 y3 w.heap.size #[.int .i64 K1, .int .i64 N1, .float .f64 f1, .slice a5 D1.length d5, .int .i64 K1, .int .i64 N1, .float .f64 f1, .slice a1 D1.length d1]
     have TY := hid (show ∀ k, some w.heap.size = some k → ∃ cs t fz, y3.heap[k]? = some (.cells cs t fz) ∧ t ≠ 5 from fun k hk => by cases hk; exact ⟨_, _, _, HT2.out, by decide⟩)
     exact bodyPost_ret (results_cell_row Tryz.results80 _ _ w.heap.size 74 _ (0, 0) _ rfl (setRow_heap _ _ _ _ _ _ HT2.out) Tryz.underlying74 rfl size_sp) rfl ⟨⟨K1, N1, f1, a5, d5, D1, K1, N1, f1, a1, d1, D1, rfl, J2.out.grown gr TY.out, J1.out.grown gr TY.out⟩, JC.out.new gr (fun k hk => by cases hk; exact Nat.le_refl _)⟩
  ·
   go_wp2_with (first
    | (refine wpList_load_row rfl 74 (.tmp 3) rfl q1 rfl 74 _ (0, 0) _ HX.out Tryz.underlying74 rfl size_sp ?_)
    | (refine wpList_store_row rfl 74 (.tmp 2) (.tmp 31) rfl w.heap.size #[.int .i64 K1, .int .i64 N1, .float .f64 f1, .slice a1 D1.length d1, .int .i64 K1, .int .i64 N1, .float .f64 f1, .slice a5 D1.length d5] rfl rfl 74 _ HT.out size_sp rfl (by simp [Value.oneCell']) ?_))
   have gr := row_grown13 y1 w.heap.size #[.int .i64 K1, .int .i64 N1, .float .f64 f1, .slice a1 D1.length d1, .int .i64 K1, .int .i64 N1, .float .f64 f1, .slice a5 D1.length d5]
   have TY := hid (show ∀ k, some w.heap.size = some k → ∃ cs t fz, y1.heap[k]? = some (.cells cs t fz) ∧ t ≠ 5 from fun k hk => by cases hk; exact ⟨_, _, _, HT.out, by decide⟩)
   exact bodyPost_ret (results_cell_row Tryz.results80 _ _ w.heap.size 74 _ (0, 0) _ rfl (setRow_heap _ _ _ _ _ _ HT.out) Tryz.underlying74 rfl size_sp) rfl ⟨⟨K1, N1, f1, a1, d1, D1, K1, N1, f1, a5, d5, D1, rfl, I1.out.grown gr TY.out, I2.out.grown gr TY.out⟩, HC.out.new gr (fun k hk => by cases hk; exact Nat.le_refl _)⟩
end Go.Proofs.YtjcjoabblafboaaGreat
