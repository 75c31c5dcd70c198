/- FnSpans' walk. -/
import Derived.Test.YtgdnjpdheghfoaaD3d
import Derived.Test.YtgdnjpdheghfoaaIsp
import Derived.Test.YtgdnjpdheghfoaaSo
import Derived.Test.YtgdnjpdheghfoaaRk3
import Derived.Test.YtgdnjpdheghfoaaSmi
import Derived.Test.YtgdnjpdheghfoaaSnm
namespace Go.Proofs.Ytgdnjpdheghfoaa
open Go.RowKit

theorem ibox_cells {w : World} {p : Nat} {v0 v1 v2 v3 : Value} (h : w.heap[p]? = some (.cells #[v0, v1, v2, v3] 26)) : w.cell? ⟨p, 0, none⟩ = some v0 ∧ w.cell? ⟨p, 1, none⟩ = some v1 ∧ w.cell? ⟨p, 2, none⟩ = some v2 ∧ w.cell? ⟨p, 3, none⟩ = some v3 :=
  ⟨by rw [cell_of_row _ _ _ _ _ _ h]; rfl, by rw [cell_of_row _ _ _ _ _ _ h]; rfl, by rw [cell_of_row _ _ _ _ _ _ h]; rfl, by rw [cell_of_row _ _ _ _ _ _ h]; rfl⟩
set_option maxRecDepth 100000 in
theorem law_big (ad : Option Addr) (n cap : Nat) (w : World) :
    Calls Try.prog 10 #[.slice ad n cap] w fun e w' => e = .returned (.bool (decide ((1048576 : Int) < (n : Int)))) ∧ w' = w := by
  go_enter Try.func10, Try.ntmps10
  go_wp2
  go_ret
  exact ⟨rfl, rfl⟩

set_option maxRecDepth 100000 in
set_option maxHeartbeats 12800000 in
theorem lawSpans {ad : Option Addr} {n : Nat} (cap : Nat) {zs : List Int} {w : World} (h : Reads w ad n zs) (hn : n ≤ maxLen) :
    Calls Try.prog 3 #[.slice ad n cap] w fun e w' => e = .returned (.bool true) ∧ Below w.heap.size w w' := by
  unfold maxLen at hn
  have HR := hid h
  clear h
  go_enter Try.func3, Try.ntmps3
  go_wp2_with fail
  refine (law_big ad n cap w).mono ?_
  rintro e w1 ⟨rfl, h1⟩
  obtain rfl := h1.symm
  by_cases hb : (1048576 : Int) < (n : Int)
  · rw [decide_eq_true hb]
    go_wp2_with fail
    go_ret
    exact ⟨rfl, Below.refl _ _⟩
  rw [decide_eq_false hb]
  have hn' : n ≤ 1048576 := by omega
  clear h1 hb hn
  go_wp2_with fail
  refine (drawSpan cap HR.out (by omega)).mono ?_
  rintro e w1 ⟨K1, N1, f1, a1, m1, c1, D1, K2, N2, f2, a2, m2, c2, D2, K3, N3, f3, a3, m3, c3, D3, rfl, i1, i2, i3, b1⟩
  have I1 := hid i1
  have I2 := hid i2
  have I3 := hid i3
  have HB := hid b1
  clear i1 i2 i3 b1 HR
  have hst1 := fun w a m => run_store Try.prog w a (.float .f64 f1) m rfl
  have hst2 := fun w a m => run_store Try.prog w a (.float .f64 f2) m rfl
  have hst3 := fun w a m => run_store Try.prog w a (.float .f64 f3) m rfl
  go_wp2_with fail
  clear hst1 hst2 hst3
  have bW : Below w1.heap.size w1 (((w1.alloc (.cells #[.int .i64 K1, .int .i64 N1, .float .f64 f1, .slice a1 m1 c1] 26)).alloc (.cells #[.int .i64 K2, .int .i64 N2, .float .f64 f2, .slice a2 m2 c2] 26)).alloc (.cells #[.int .i64 K3, .int .i64 N3, .float .f64 f3, .slice a3 m3 c3] 26)) := (((Below.refl w1.heap.size w1).alloc (Nat.le_refl _) (.cells #[.int .i64 K1, .int .i64 N1, .float .f64 f1, .slice a1 m1 c1] 26)).alloc (by simp) (.cells #[.int .i64 K2, .int .i64 N2, .float .f64 f2, .slice a2 m2 c2] 26)).alloc (by simp; omega) (.cells #[.int .i64 K3, .int .i64 N3, .float .f64 f3, .slice a3 m3 c3] 26)
  have T3 := hid (show (((w1.alloc (.cells #[.int .i64 K1, .int .i64 N1, .float .f64 f1, .slice a1 m1 c1] 26)).alloc (.cells #[.int .i64 K2, .int .i64 N2, .float .f64 f2, .slice a2 m2 c2] 26)).alloc (.cells #[.int .i64 K3, .int .i64 N3, .float .f64 f3, .slice a3 m3 c3] 26)).heap[w1.heap.size + 1 + 1]? = some (.cells #[.int .i64 K3, .int .i64 N3, .float .f64 f3, .slice a3 m3 c3] 26) by have hh := heap_alloc_new ((w1.alloc (.cells #[.int .i64 K1, .int .i64 N1, .float .f64 f1, .slice a1 m1 c1] 26)).alloc (.cells #[.int .i64 K2, .int .i64 N2, .float .f64 f2, .slice a2 m2 c2] 26)) (.cells #[.int .i64 K3, .int .i64 N3, .float .f64 f3, .slice a3 m3 c3] 26); simpa using hh)
  have T2 := hid (show (((w1.alloc (.cells #[.int .i64 K1, .int .i64 N1, .float .f64 f1, .slice a1 m1 c1] 26)).alloc (.cells #[.int .i64 K2, .int .i64 N2, .float .f64 f2, .slice a2 m2 c2] 26)).alloc (.cells #[.int .i64 K3, .int .i64 N3, .float .f64 f3, .slice a3 m3 c3] 26)).heap[w1.heap.size + 1]? = some (.cells #[.int .i64 K2, .int .i64 N2, .float .f64 f2, .slice a2 m2 c2] 26) by rw [(World.grownBy_alloc ((w1.alloc (.cells #[.int .i64 K1, .int .i64 N1, .float .f64 f1, .slice a1 m1 c1] 26)).alloc (.cells #[.int .i64 K2, .int .i64 N2, .float .f64 f2, .slice a2 m2 c2] 26)) (.cells #[.int .i64 K3, .int .i64 N3, .float .f64 f3, .slice a3 m3 c3] 26) none).block _ (by simp) (by simp)]; have hh := heap_alloc_new (w1.alloc (.cells #[.int .i64 K1, .int .i64 N1, .float .f64 f1, .slice a1 m1 c1] 26)) (.cells #[.int .i64 K2, .int .i64 N2, .float .f64 f2, .slice a2 m2 c2] 26); simpa using hh)
  have T1 := hid (show (((w1.alloc (.cells #[.int .i64 K1, .int .i64 N1, .float .f64 f1, .slice a1 m1 c1] 26)).alloc (.cells #[.int .i64 K2, .int .i64 N2, .float .f64 f2, .slice a2 m2 c2] 26)).alloc (.cells #[.int .i64 K3, .int .i64 N3, .float .f64 f3, .slice a3 m3 c3] 26)).heap[w1.heap.size]? = some (.cells #[.int .i64 K1, .int .i64 N1, .float .f64 f1, .slice a1 m1 c1] 26) by rw [(World.grownBy_alloc ((w1.alloc (.cells #[.int .i64 K1, .int .i64 N1, .float .f64 f1, .slice a1 m1 c1] 26)).alloc (.cells #[.int .i64 K2, .int .i64 N2, .float .f64 f2, .slice a2 m2 c2] 26)) (.cells #[.int .i64 K3, .int .i64 N3, .float .f64 f3, .slice a3 m3 c3] 26) none).block _ (by simp; omega) (by simp), (World.grownBy_alloc (w1.alloc (.cells #[.int .i64 K1, .int .i64 N1, .float .f64 f1, .slice a1 m1 c1] 26)) (.cells #[.int .i64 K2, .int .i64 N2, .float .f64 f2, .slice a2 m2 c2] 26) none).block _ (by simp) (by simp)]; exact heap_alloc_new w1 _)
  replace HB := hid (HB.out.trans (bW.mono HB.out.size))
  replace I1 := hid (I1.out.below bW (Nat.le_refl _))
  replace I2 := hid (I2.out.below bW (Nat.le_refl _))
  replace I3 := hid (I3.out.below bW (Nat.le_refl _))
  clear bW
  generalize ((w1.alloc (.cells #[.int .i64 K1, .int .i64 N1, .float .f64 f1, .slice a1 m1 c1] 26)).alloc (.cells #[.int .i64 K2, .int .i64 N2, .float .f64 f2, .slice a2 m2 c2] 26)).alloc (.cells #[.int .i64 K3, .int .i64 N3, .float .f64 f3, .slice a3 m3 c3] 26) = W at *
  generalize w1.heap.size = p at *
  refine (spec_KeyOk K1 N1 f1 a1 m1 c1 I1.out.f0 (by have := I1.out.m0; omega) _).mono ?_
  rintro e v1 ⟨rfl, b⟩
  replace HB := hid (HB.out.trans (b.mono HB.out.size))
  replace I1 := hid (I1.out.below b (Nat.le_refl _))
  replace I2 := hid (I2.out.below b (Nat.le_refl _))
  replace I3 := hid (I3.out.below b (Nat.le_refl _))
  replace T1 := hid ((b.block _ (Array.getElem?_eq_some_iff.1 T1.out).1).trans T1.out)
  replace T2 := hid ((b.block _ (Array.getElem?_eq_some_iff.1 T2.out).1).trans T2.out)
  replace T3 := hid ((b.block _ (Array.getElem?_eq_some_iff.1 T3.out).1).trans T3.out)
  clear b
  by_cases k1 : okK K1 N1 f1 m1 = false
  · rw [k1]
    obtain ⟨x10, x11, x12, x13⟩ := ibox_cells T1.out
    obtain ⟨x20, x21, x22, x23⟩ := ibox_cells T2.out
    obtain ⟨x30, x31, x32, x33⟩ := ibox_cells T3.out
    go_wp2_with fail
    clear x10 x11 x12 x13 x20 x21 x22 x23 x30 x31 x32 x33
    refine (impl_InSpan K1 N1 K2 N2 K3 N3 f1 f2 f3 c1 c2 c3 I1.out.f0 I2.out.f0 I3.out.f0 I1.out.rd I2.out.rd I3.out.rd (by have := I1.out.m0; omega) (by have := I2.out.m0; omega) (by have := I3.out.m0; omega)).mono ?_
    rintro e w9 ⟨rfl, b9⟩
    have hin : inSp K1 N1 f1 m1 D1 K2 N2 f2 m2 D2 K3 N3 f3 m3 D3 = false := by unfold inSp; simp [k1]
    rw [hin]
    replace HB := hid (HB.out.trans (b9.mono HB.out.size))
    replace I1 := hid (I1.out.below b9 (Nat.le_refl _))
    replace I2 := hid (I2.out.below b9 (Nat.le_refl _))
    replace I3 := hid (I3.out.below b9 (Nat.le_refl _))
    replace T1 := hid ((b9.block _ (Array.getElem?_eq_some_iff.1 T1.out).1).trans T1.out)
    replace T2 := hid ((b9.block _ (Array.getElem?_eq_some_iff.1 T2.out).1).trans T2.out)
    replace T3 := hid ((b9.block _ (Array.getElem?_eq_some_iff.1 T3.out).1).trans T3.out)
    clear b9
    go_wp2_with fail
    go_ret
    exact ⟨rfl, HB.out⟩
  have ok1 : okK K1 N1 f1 m1 = true := by simpa using k1
  rw [ok1]
  clear k1
  obtain ⟨x10, x11, x12, x13⟩ := ibox_cells T1.out
  obtain ⟨x20, x21, x22, x23⟩ := ibox_cells T2.out
  obtain ⟨x30, x31, x32, x33⟩ := ibox_cells T3.out
  go_wp2_with fail
  clear x10 x11 x12 x13 x20 x21 x22 x23 x30 x31 x32 x33
  refine (spec_KeyOk K2 N2 f2 a2 m2 c2 I2.out.f0 (by have := I2.out.m0; omega) _).mono ?_
  rintro e v2 ⟨rfl, b⟩
  replace HB := hid (HB.out.trans (b.mono HB.out.size))
  replace I1 := hid (I1.out.below b (Nat.le_refl _))
  replace I2 := hid (I2.out.below b (Nat.le_refl _))
  replace I3 := hid (I3.out.below b (Nat.le_refl _))
  replace T1 := hid ((b.block _ (Array.getElem?_eq_some_iff.1 T1.out).1).trans T1.out)
  replace T2 := hid ((b.block _ (Array.getElem?_eq_some_iff.1 T2.out).1).trans T2.out)
  replace T3 := hid ((b.block _ (Array.getElem?_eq_some_iff.1 T3.out).1).trans T3.out)
  clear b
  by_cases k2 : okK K2 N2 f2 m2 = false
  · rw [k2]
    obtain ⟨x10, x11, x12, x13⟩ := ibox_cells T1.out
    obtain ⟨x20, x21, x22, x23⟩ := ibox_cells T2.out
    obtain ⟨x30, x31, x32, x33⟩ := ibox_cells T3.out
    go_wp2_with fail
    clear x10 x11 x12 x13 x20 x21 x22 x23 x30 x31 x32 x33
    refine (impl_InSpan K1 N1 K2 N2 K3 N3 f1 f2 f3 c1 c2 c3 I1.out.f0 I2.out.f0 I3.out.f0 I1.out.rd I2.out.rd I3.out.rd (by have := I1.out.m0; omega) (by have := I2.out.m0; omega) (by have := I3.out.m0; omega)).mono ?_
    rintro e w9 ⟨rfl, b9⟩
    have hin : inSp K1 N1 f1 m1 D1 K2 N2 f2 m2 D2 K3 N3 f3 m3 D3 = false := by unfold inSp; simp [k2]
    rw [hin]
    replace HB := hid (HB.out.trans (b9.mono HB.out.size))
    replace I1 := hid (I1.out.below b9 (Nat.le_refl _))
    replace I2 := hid (I2.out.below b9 (Nat.le_refl _))
    replace I3 := hid (I3.out.below b9 (Nat.le_refl _))
    replace T1 := hid ((b9.block _ (Array.getElem?_eq_some_iff.1 T1.out).1).trans T1.out)
    replace T2 := hid ((b9.block _ (Array.getElem?_eq_some_iff.1 T2.out).1).trans T2.out)
    replace T3 := hid ((b9.block _ (Array.getElem?_eq_some_iff.1 T3.out).1).trans T3.out)
    clear b9
    go_wp2_with fail
    go_ret
    exact ⟨rfl, HB.out⟩
  have ok2 : okK K2 N2 f2 m2 = true := by simpa using k2
  rw [ok2]
  clear k2
  obtain ⟨x10, x11, x12, x13⟩ := ibox_cells T1.out
  obtain ⟨x20, x21, x22, x23⟩ := ibox_cells T2.out
  obtain ⟨x30, x31, x32, x33⟩ := ibox_cells T3.out
  go_wp2_with fail
  clear x10 x11 x12 x13 x20 x21 x22 x23 x30 x31 x32 x33
  refine (spec_KeyOk K3 N3 f3 a3 m3 c3 I3.out.f0 (by have := I3.out.m0; omega) _).mono ?_
  rintro e v3 ⟨rfl, b⟩
  replace HB := hid (HB.out.trans (b.mono HB.out.size))
  replace I1 := hid (I1.out.below b (Nat.le_refl _))
  replace I2 := hid (I2.out.below b (Nat.le_refl _))
  replace I3 := hid (I3.out.below b (Nat.le_refl _))
  replace T1 := hid ((b.block _ (Array.getElem?_eq_some_iff.1 T1.out).1).trans T1.out)
  replace T2 := hid ((b.block _ (Array.getElem?_eq_some_iff.1 T2.out).1).trans T2.out)
  replace T3 := hid ((b.block _ (Array.getElem?_eq_some_iff.1 T3.out).1).trans T3.out)
  clear b
  by_cases k3 : okK K3 N3 f3 m3 = false
  · rw [k3]
    obtain ⟨x10, x11, x12, x13⟩ := ibox_cells T1.out
    obtain ⟨x20, x21, x22, x23⟩ := ibox_cells T2.out
    obtain ⟨x30, x31, x32, x33⟩ := ibox_cells T3.out
    go_wp2_with fail
    clear x10 x11 x12 x13 x20 x21 x22 x23 x30 x31 x32 x33
    refine (impl_InSpan K1 N1 K2 N2 K3 N3 f1 f2 f3 c1 c2 c3 I1.out.f0 I2.out.f0 I3.out.f0 I1.out.rd I2.out.rd I3.out.rd (by have := I1.out.m0; omega) (by have := I2.out.m0; omega) (by have := I3.out.m0; omega)).mono ?_
    rintro e w9 ⟨rfl, b9⟩
    have hin : inSp K1 N1 f1 m1 D1 K2 N2 f2 m2 D2 K3 N3 f3 m3 D3 = false := by unfold inSp; simp [k3]
    rw [hin]
    replace HB := hid (HB.out.trans (b9.mono HB.out.size))
    replace I1 := hid (I1.out.below b9 (Nat.le_refl _))
    replace I2 := hid (I2.out.below b9 (Nat.le_refl _))
    replace I3 := hid (I3.out.below b9 (Nat.le_refl _))
    replace T1 := hid ((b9.block _ (Array.getElem?_eq_some_iff.1 T1.out).1).trans T1.out)
    replace T2 := hid ((b9.block _ (Array.getElem?_eq_some_iff.1 T2.out).1).trans T2.out)
    replace T3 := hid ((b9.block _ (Array.getElem?_eq_some_iff.1 T3.out).1).trans T3.out)
    clear b9
    go_wp2_with fail
    go_ret
    exact ⟨rfl, HB.out⟩
  have ok3 : okK K3 N3 f3 m3 = true := by simpa using k3
  rw [ok3]
  clear k3
  obtain ⟨x10, x11, x12, x13⟩ := ibox_cells T1.out
  obtain ⟨x20, x21, x22, x23⟩ := ibox_cells T2.out
  obtain ⟨x30, x31, x32, x33⟩ := ibox_cells T3.out
  go_wp2_with fail
  clear x10 x11 x12 x13 x20 x21 x22 x23 x30 x31 x32 x33
  have HK := hid (show ∀ X, Below v3.heap.size v3 X → (X.cell? ⟨p, 0, none⟩ = some (.int .i64 K1) ∧ X.cell? ⟨p, 1, none⟩ = some (.int .i64 N1) ∧ X.cell? ⟨p, 2, none⟩ = some (.float .f64 f1) ∧ X.cell? ⟨p, 3, none⟩ = some (.slice a1 m1 c1) ∧ X.cell? ⟨(p + 1), 0, none⟩ = some (.int .i64 K2) ∧ X.cell? ⟨(p + 1), 1, none⟩ = some (.int .i64 N2) ∧ X.cell? ⟨(p + 1), 2, none⟩ = some (.float .f64 f2) ∧ X.cell? ⟨(p + 1), 3, none⟩ = some (.slice a2 m2 c2) ∧ X.cell? ⟨(p + 1 + 1), 0, none⟩ = some (.int .i64 K3) ∧ X.cell? ⟨(p + 1 + 1), 1, none⟩ = some (.int .i64 N3) ∧ X.cell? ⟨(p + 1 + 1), 2, none⟩ = some (.float .f64 f3) ∧ X.cell? ⟨(p + 1 + 1), 3, none⟩ = some (.slice a3 m3 c3)) from fun X b => by
    have t1 := ibox_cells ((b.block _ (Array.getElem?_eq_some_iff.1 T1.out).1).trans T1.out)
    have t2 := ibox_cells ((b.block _ (Array.getElem?_eq_some_iff.1 T2.out).1).trans T2.out)
    have t3 := ibox_cells ((b.block _ (Array.getElem?_eq_some_iff.1 T3.out).1).trans T3.out)
    exact ⟨t1.1, t1.2.1, t1.2.2.1, t1.2.2.2, t2.1, t2.2.1, t2.2.2.1, t2.2.2.2, t3.1, t3.2.1, t3.2.2.1, t3.2.2.2⟩)
  have HR := hid (Still.drew v3)
  have bD := hid ((Still.drew v3).below v3.heap.size)
  obtain ⟨Z1, hZ1⟩ : ∃ z, keyB K1 N1 f1 m1 D1 = z := ⟨_, rfl⟩
  have CB1 := hid (fun (X : World) (b : Below v3.heap.size v3 X) => spec_KeyBytes K1 N1 f1 c1 I1.out.nl (I1.out.rd.below b (Nat.le_refl _)) (by have := I1.out.m0; omega) I1.out.n0 I1.out.n1 I1.out.f0)
  have BZ1 : inB Z1 := (keyB_bd hZ1 I1.out.rd.bd (by have := I1.out.rd.len; have := I1.out.m0; omega)).1
  obtain ⟨Z2, hZ2⟩ : ∃ z, keyB K2 N2 f2 m2 D2 = z := ⟨_, rfl⟩
  have CB2 := hid (fun (X : World) (b : Below v3.heap.size v3 X) => spec_KeyBytes K2 N2 f2 c2 I2.out.nl (I2.out.rd.below b (Nat.le_refl _)) (by have := I2.out.m0; omega) I2.out.n0 I2.out.n1 I2.out.f0)
  have BZ2 : inB Z2 := (keyB_bd hZ2 I2.out.rd.bd (by have := I2.out.rd.len; have := I2.out.m0; omega)).1
  obtain ⟨Z3, hZ3⟩ : ∃ z, keyB K3 N3 f3 m3 D3 = z := ⟨_, rfl⟩
  have CB3 := hid (fun (X : World) (b : Below v3.heap.size v3 X) => spec_KeyBytes K3 N3 f3 c3 I3.out.nl (I3.out.rd.below b (Nat.le_refl _)) (by have := I3.out.m0; omega) I3.out.n0 I3.out.n1 I3.out.f0)
  have BZ3 : inB Z3 := (keyB_bd hZ3 I3.out.rd.bd (by have := I3.out.rd.len; have := I3.out.m0; omega)).1
  have M13 := (keyB_cmp K1 N1 K3 N3 f1 f3 m1 m3 D1 D3 ok1 ok3 I1.out.rd.len I3.out.rd.len I1.out.n0 I1.out.n1 I3.out.n0 I3.out.n1 I1.out.f0 I3.out.f0)
  have M32 := (keyB_cmp K3 N3 K2 N2 f3 f2 m3 m2 D3 D2 ok3 ok2 I3.out.rd.len I2.out.rd.len I3.out.n0 I3.out.n1 I2.out.n0 I2.out.n1 I3.out.f0 I2.out.f0)
  simp only [hZ1, hZ2, hZ3] at CB1 CB2 CB3 M13 M32
  clear hZ1 hZ2 hZ3
  have MS := hid (inSp_keys K1 N1 K2 N2 K3 N3 f1 f2 f3 m1 m2 m3 D1 D2 D3 ok1 ok2 ok3 M13 M32)
  have L13 := leq_txt BZ1 BZ3
  have L32 := leq_txt BZ3 BZ2
  replace BZ1 := hid BZ1
  replace BZ2 := hid BZ2
  replace BZ3 := hid BZ3
  clear M13 M32 HR
  by_cases q1 : ¬ txt Z1 Z3 ≤ 0
  · rw [decide_eq_false q1] at L13 MS
    refine region_K 99 (fun X => (X.cell? ⟨p, 0, none⟩ = some (.int .i64 K1) ∧ X.cell? ⟨p, 1, none⟩ = some (.int .i64 N1) ∧ X.cell? ⟨p, 2, none⟩ = some (.float .f64 f1) ∧ X.cell? ⟨p, 3, none⟩ = some (.slice a1 m1 c1) ∧ X.cell? ⟨(p + 1), 0, none⟩ = some (.int .i64 K2) ∧ X.cell? ⟨(p + 1), 1, none⟩ = some (.int .i64 N2) ∧ X.cell? ⟨(p + 1), 2, none⟩ = some (.float .f64 f2) ∧ X.cell? ⟨(p + 1), 3, none⟩ = some (.slice a2 m2 c2) ∧ X.cell? ⟨(p + 1 + 1), 0, none⟩ = some (.int .i64 K3) ∧ X.cell? ⟨(p + 1 + 1), 1, none⟩ = some (.int .i64 N3) ∧ X.cell? ⟨(p + 1 + 1), 2, none⟩ = some (.float .f64 f3) ∧ X.cell? ⟨(p + 1 + 1), 3, none⟩ = some (.slice a3 m3 c3))) (by kernel_rfl) ?_ (fun hHeld => ?_)
    · exact HK.out _ bD.out
    refine anyK_take2 (i := 0) (v := ?v60001) rfl (by kernel_rfl) (by kernel_rfl) (by kernel_rfl) (by kernel_rfl) (fun _ _ _ h => h) (by rfl) hHeld ?hy60001 (some 33) (by rfl) ?rest60001
    case hy60001 => (intro W' hSw; (try dsimp only at hSw); go_simp; (try with_reducible rfl))
    try simp only [Act.put]
    try simp only [List.setIfInBounds_toArray]
    try simp only [List.set_cons_succ, List.set_cons_zero]
    refine anyK_take2 (i := 3) (v := ?v60002) rfl (by kernel_rfl) (by kernel_rfl) (by kernel_rfl) (by kernel_rfl) (fun _ _ _ h => h) (by rfl) hHeld ?hy60002 (some 36) (by rfl) ?rest60002
    case hy60002 => (intro W' hSw; (try dsimp only at hSw); go_simp; (try with_reducible rfl))
    try simp only [Act.put]
    try simp only [List.setIfInBounds_toArray]
    try simp only [List.set_cons_succ, List.set_cons_zero]
    refine anyK_step (i := 1) (by kernel_rfl) rfl (fun K0 hK => ?_)
    go_simp
    refine (CB1.out _ bD.out).mono ?_
    rintro e y1 ⟨s1, rfl, o1, b1⟩
    obtain ⟨p1, d1, rfl, rp1, -⟩ := Reads.own o1 BZ1.out
    have RP1 := hid rp1
    have Y1 := hid (bD.out.trans (b1.mono bD.out.size))
    clear rp1 o1 b1
    go_wp2_with fail
    refine hK.out _ _ ?_ (fun hH2 => ?_)
    · exact HK.out _ Y1.out
    clear hK K0 hHeld
    have hHeld := hH2
    clear hH2
    try simp only [Act.put]
    try simp only [List.setIfInBounds_toArray]
    try simp only [List.set_cons_succ, List.set_cons_zero]
    refine anyK_more (fun X => (X.cell? ⟨p, 0, none⟩ = some (.int .i64 K1) ∧ X.cell? ⟨p, 1, none⟩ = some (.int .i64 N1) ∧ X.cell? ⟨p, 2, none⟩ = some (.float .f64 f1) ∧ X.cell? ⟨p, 3, none⟩ = some (.slice a1 m1 c1) ∧ X.cell? ⟨(p + 1), 0, none⟩ = some (.int .i64 K2) ∧ X.cell? ⟨(p + 1), 1, none⟩ = some (.int .i64 N2) ∧ X.cell? ⟨(p + 1), 2, none⟩ = some (.float .f64 f2) ∧ X.cell? ⟨(p + 1), 3, none⟩ = some (.slice a2 m2 c2) ∧ X.cell? ⟨(p + 1 + 1), 0, none⟩ = some (.int .i64 K3) ∧ X.cell? ⟨(p + 1 + 1), 1, none⟩ = some (.int .i64 N3) ∧ X.cell? ⟨(p + 1 + 1), 2, none⟩ = some (.float .f64 f3) ∧ X.cell? ⟨(p + 1 + 1), 3, none⟩ = some (.slice a3 m3 c3)) ∧ (convert 22 9 (.slice p1 Z1.length d1)).run Try.prog X = .ok (.string (str Z1)) X) (fun _ h => h.1) ⟨HK.out _ Y1.out, RP1.out.str d1 22 Try.underlying22 Try.underlying5 Try.underlying9⟩ (fun hH3 => ?_)
    clear hHeld
    have hHeld := hH3
    clear hH3
    refine anyK_take2 (i := 2) (v := ?v60003) rfl (by kernel_rfl) (by kernel_rfl) (by kernel_rfl) (by kernel_rfl) (fun _ _ _ h => h) (by rfl) hHeld ?hy60003 (some 35) (by rfl) ?rest60003
    case hy60003 => (intro W' hSw; (try dsimp only at hSw); go_simp; (try with_reducible rfl))
    try simp only [Act.put]
    try simp only [List.setIfInBounds_toArray]
    try simp only [List.set_cons_succ, List.set_cons_zero]
    refine anyK_step (i := 4) (by kernel_rfl) rfl (fun K0 hK => ?_)
    go_simp
    refine (CB3.out _ Y1.out).mono ?_
    rintro e y2 ⟨s2, rfl, o2, b2⟩
    obtain ⟨p2, d2, rfl, rp2, -⟩ := Reads.own o2 BZ3.out
    replace RP1 := hid (RP1.out.below b2 (Nat.le_refl _))
    have RP2 := hid rp2
    have Y2 := hid (Y1.out.trans (b2.mono Y1.out.size))
    clear rp2 o2 b2
    go_wp2_with fail
    refine hK.out _ _ ?_ (fun hH2 => ?_)
    · exact ⟨HK.out _ Y2.out, RP1.out.str d1 22 Try.underlying22 Try.underlying5 Try.underlying9⟩
    clear hK K0 hHeld
    have hHeld := hH2
    clear hH2
    try simp only [Act.put]
    try simp only [List.setIfInBounds_toArray]
    try simp only [List.set_cons_succ, List.set_cons_zero]
    refine anyK_more (fun X => (X.cell? ⟨p, 0, none⟩ = some (.int .i64 K1) ∧ X.cell? ⟨p, 1, none⟩ = some (.int .i64 N1) ∧ X.cell? ⟨p, 2, none⟩ = some (.float .f64 f1) ∧ X.cell? ⟨p, 3, none⟩ = some (.slice a1 m1 c1) ∧ X.cell? ⟨(p + 1), 0, none⟩ = some (.int .i64 K2) ∧ X.cell? ⟨(p + 1), 1, none⟩ = some (.int .i64 N2) ∧ X.cell? ⟨(p + 1), 2, none⟩ = some (.float .f64 f2) ∧ X.cell? ⟨(p + 1), 3, none⟩ = some (.slice a2 m2 c2) ∧ X.cell? ⟨(p + 1 + 1), 0, none⟩ = some (.int .i64 K3) ∧ X.cell? ⟨(p + 1 + 1), 1, none⟩ = some (.int .i64 N3) ∧ X.cell? ⟨(p + 1 + 1), 2, none⟩ = some (.float .f64 f3) ∧ X.cell? ⟨(p + 1 + 1), 3, none⟩ = some (.slice a3 m3 c3)) ∧ (convert 22 9 (.slice p1 Z1.length d1)).run Try.prog X = .ok (.string (str Z1)) X ∧ (convert 22 9 (.slice p2 Z3.length d2)).run Try.prog X = .ok (.string (str Z3)) X) (fun _ h => ⟨h.1, h.2.1⟩) ⟨HK.out _ Y2.out, RP1.out.str d1 22 Try.underlying22 Try.underlying5 Try.underlying9, RP2.out.str d2 22 Try.underlying22 Try.underlying5 Try.underlying9⟩ (fun hH3 => ?_)
    clear hHeld
    have hHeld := hH3
    clear hH3
    refine anyK_take2 (i := 5) (v := ?v60004) rfl (by kernel_rfl) (by kernel_rfl) (by kernel_rfl) (by kernel_rfl) (fun _ _ _ h => h) (by rfl) hHeld ?hy60004 (some 38) (by rfl) ?rest60004
    case hy60004 => (intro W' hSw; (try dsimp only at hSw); go_simp; (try with_reducible rfl))
    try simp only [Act.put]
    try simp only [List.setIfInBounds_toArray]
    try simp only [List.set_cons_succ, List.set_cons_zero]
    refine anyK_take2 (i := 6) (v := ?v60005) rfl (by kernel_rfl) (by kernel_rfl) (by kernel_rfl) (by kernel_rfl) (fun _ _ _ h => h) (by rfl) hHeld ?hy60005 (some 39) (by rfl) ?rest60005
    case hy60005 => (intro W' hSw; (try dsimp only at hSw); go_simp; (try with_reducible rfl))
    try simp only [Act.put]
    try simp only [List.setIfInBounds_toArray]
    try simp only [List.set_cons_succ, List.set_cons_zero]
    try simp only [L13]
    refine anyK_take2 (i := 7) (v := ?v60006) rfl (by kernel_rfl) (by kernel_rfl) (by kernel_rfl) (by kernel_rfl) (fun _ _ _ h => h) (by rfl) hHeld ?hy60006 (some 40) (by rfl) ?rest60006
    case hy60006 => (intro W' hSw; (try dsimp only at hSw); go_simp; (try with_reducible rfl))
    try simp only [Act.put]
    try simp only [List.setIfInBounds_toArray]
    try simp only [List.set_cons_succ, List.set_cons_zero]
    refine anyK_skip (i := 8) rfl (by kernel_rfl) (by kernel_rfl) (by kernel_rfl) (by kernel_rfl) (fun _ _ _ h => h) (by rfl) hHeld (some 41) (by rfl) ?_
    try simp only [Act.put]
    try simp only [List.setIfInBounds_toArray]
    try simp only [List.set_cons_succ, List.set_cons_zero]
    refine anyK_skip (i := 9) rfl (by kernel_rfl) (by kernel_rfl) (by kernel_rfl) (by kernel_rfl) (fun _ _ _ h => h) (by rfl) hHeld (some 42) (by rfl) ?_
    try simp only [Act.put]
    try simp only [List.setIfInBounds_toArray]
    try simp only [List.set_cons_succ, List.set_cons_zero]
    refine anyK_skip (i := 10) rfl (by kernel_rfl) (by kernel_rfl) (by kernel_rfl) (by kernel_rfl) (fun _ _ _ h => h) (by rfl) hHeld (some 43) (by rfl) ?_
    try simp only [Act.put]
    try simp only [List.setIfInBounds_toArray]
    try simp only [List.set_cons_succ, List.set_cons_zero]
    refine anyK_skip (i := 11) rfl (by kernel_rfl) (by kernel_rfl) (by kernel_rfl) (by kernel_rfl) (fun _ _ _ h => h) (by rfl) hHeld (some 44) (by rfl) ?_
    try simp only [Act.put]
    try simp only [List.setIfInBounds_toArray]
    try simp only [List.set_cons_succ, List.set_cons_zero]
    refine anyK_skip (i := 12) rfl (by kernel_rfl) (by kernel_rfl) (by kernel_rfl) (by kernel_rfl) (fun _ _ _ h => h) (by rfl) hHeld (some 45) (by rfl) ?_
    try simp only [Act.put]
    try simp only [List.setIfInBounds_toArray]
    try simp only [List.set_cons_succ, List.set_cons_zero]
    refine anyK_skip (i := 13) rfl (by kernel_rfl) (by kernel_rfl) (by kernel_rfl) (by kernel_rfl) (fun _ _ _ h => h) (by rfl) hHeld (some 46) (by rfl) ?_
    try simp only [Act.put]
    try simp only [List.setIfInBounds_toArray]
    try simp only [List.set_cons_succ, List.set_cons_zero]
    refine anyK_skip (i := 14) rfl (by kernel_rfl) (by kernel_rfl) (by kernel_rfl) (by kernel_rfl) (fun _ _ _ h => h) (by rfl) hHeld (some 47) (by rfl) ?_
    try simp only [Act.put]
    try simp only [List.setIfInBounds_toArray]
    try simp only [List.set_cons_succ, List.set_cons_zero]
    refine anyK_take2 (i := 15) (v := ?v60007) rfl (by kernel_rfl) (by kernel_rfl) (by kernel_rfl) (by kernel_rfl) (fun _ _ _ h => h) (by rfl) hHeld ?hy60007 (some 48) (by rfl) ?rest60007
    case hy60007 => (intro W' hSw; (try dsimp only at hSw); go_simp; (try with_reducible rfl))
    try simp only [Act.put]
    try simp only [List.setIfInBounds_toArray]
    try simp only [List.set_cons_succ, List.set_cons_zero]
    refine anyK_step (i := 16) (by kernel_rfl) rfl (fun K0 hK => ?_)
    go_simp
    refine hK.out _ _ ?_ (fun hH2 => ?_)
    · exact ⟨HK.out _ Y2.out, RP1.out.str d1 22 Try.underlying22 Try.underlying5 Try.underlying9, RP2.out.str d2 22 Try.underlying22 Try.underlying5 Try.underlying9⟩
    clear hK K0 hHeld
    have hHeld := hH2
    clear hH2
    try simp only [Act.put]
    try simp only [List.setIfInBounds_toArray]
    try simp only [List.set_cons_succ, List.set_cons_zero]
    refine anyK_done (by kernel_rfl) ?_ _
    clear hHeld
    clear CB1 CB2 CB3 HK bD BZ1 BZ2 BZ3 L13 L32
    replace HB := hid (HB.out.trans (Y2.out.mono HB.out.size))
    replace I1 := hid (I1.out.below Y2.out (Nat.le_refl _))
    replace I2 := hid (I2.out.below Y2.out (Nat.le_refl _))
    replace I3 := hid (I3.out.below Y2.out (Nat.le_refl _))
    replace T1 := hid ((Y2.out.block _ (Array.getElem?_eq_some_iff.1 T1.out).1).trans T1.out)
    replace T2 := hid ((Y2.out.block _ (Array.getElem?_eq_some_iff.1 T2.out).1).trans T2.out)
    replace T3 := hid ((Y2.out.block _ (Array.getElem?_eq_some_iff.1 T3.out).1).trans T3.out)
    clear RP1 RP2 Y1 Y2
    go_wp2_with fail
    have HK := hid (show ∀ X, Below y2.heap.size y2 X → (X.cell? ⟨p, 0, none⟩ = some (.int .i64 K1) ∧ X.cell? ⟨p, 1, none⟩ = some (.int .i64 N1) ∧ X.cell? ⟨p, 2, none⟩ = some (.float .f64 f1) ∧ X.cell? ⟨p, 3, none⟩ = some (.slice a1 m1 c1) ∧ X.cell? ⟨(p + 1), 0, none⟩ = some (.int .i64 K2) ∧ X.cell? ⟨(p + 1), 1, none⟩ = some (.int .i64 N2) ∧ X.cell? ⟨(p + 1), 2, none⟩ = some (.float .f64 f2) ∧ X.cell? ⟨(p + 1), 3, none⟩ = some (.slice a2 m2 c2) ∧ X.cell? ⟨(p + 1 + 1), 0, none⟩ = some (.int .i64 K3) ∧ X.cell? ⟨(p + 1 + 1), 1, none⟩ = some (.int .i64 N3) ∧ X.cell? ⟨(p + 1 + 1), 2, none⟩ = some (.float .f64 f3) ∧ X.cell? ⟨(p + 1 + 1), 3, none⟩ = some (.slice a3 m3 c3)) from fun X b => by
      have t1 := ibox_cells ((b.block _ (Array.getElem?_eq_some_iff.1 T1.out).1).trans T1.out)
      have t2 := ibox_cells ((b.block _ (Array.getElem?_eq_some_iff.1 T2.out).1).trans T2.out)
      have t3 := ibox_cells ((b.block _ (Array.getElem?_eq_some_iff.1 T3.out).1).trans T3.out)
      exact ⟨t1.1, t1.2.1, t1.2.2.1, t1.2.2.2, t2.1, t2.2.1, t2.2.2.1, t2.2.2.2, t3.1, t3.2.1, t3.2.2.1, t3.2.2.2⟩)
    have bD := hid ((Still.drew y2).below y2.heap.size)
    have E3 := hid (inSp_self K3 N3 f3 m3 D3 ok3 I3.out.rd.len I3.out.n0 I3.out.n1 I3.out.f0)
    have EE := hid (inSp_one K3 N3 K2 N2 f3 f2 m3 m2 D3 D2 ok3 ok2 I3.out.rd.len I2.out.rd.len I3.out.n0 I3.out.n1 I2.out.n0 I2.out.n1 I3.out.f0 I2.out.f0)
    have G1 := hid (fun (X : World) (b : Below y2.heap.size y2 X) => impl_InSpan K1 N1 K2 N2 K3 N3 f1 f2 f3 c1 c2 c3 I1.out.f0 I2.out.f0 I3.out.f0 (I1.out.rd.below b (Nat.le_refl _)) (I2.out.rd.below b (Nat.le_refl _)) (I3.out.rd.below b (Nat.le_refl _)) (by have := I1.out.m0; omega) (by have := I2.out.m0; omega) (by have := I3.out.m0; omega))
    have G2 := hid (fun (X : World) (b : Below y2.heap.size y2 X) => impl_InSpan K3 N3 K3 N3 K3 N3 f3 f3 f3 c3 c3 c3 I3.out.f0 I3.out.f0 I3.out.f0 (I3.out.rd.below b (Nat.le_refl _)) (I3.out.rd.below b (Nat.le_refl _)) (I3.out.rd.below b (Nat.le_refl _)) (by have := I3.out.m0; omega) (by have := I3.out.m0; omega) (by have := I3.out.m0; omega))
    have G3 := hid (fun (X : World) (b : Below y2.heap.size y2 X) => impl_InSpan K3 N3 K3 N3 K2 N2 f3 f3 f2 c3 c3 c2 I3.out.f0 I3.out.f0 I2.out.f0 (I3.out.rd.below b (Nat.le_refl _)) (I3.out.rd.below b (Nat.le_refl _)) (I2.out.rd.below b (Nat.le_refl _)) (by have := I3.out.m0; omega) (by have := I3.out.m0; omega) (by have := I2.out.m0; omega))
    have G4 := hid (fun (X : World) (b : Below y2.heap.size y2 X) => law_same K3 N3 K2 N2 f3 f2 c3 c2 I3.out.f0 I2.out.f0 (I3.out.rd.below b (Nat.le_refl _)) (I2.out.rd.below b (Nat.le_refl _)))
    rw [MS.out] at G1
    have hv : (false && decide (txt Z3 Z2 ≤ 0)) = false := by simp
    rw [hv] at G1
    clear hv
    rw [E3.out] at G2
    rw [EE.out] at G3
    generalize decide (K3 = K2 ∧ N3 = N2 ∧ fbits f3 = fbits f2 ∧ D3 = D2) = E at G3 G4
    clear E3 EE MS
    refine region_K 99 (fun X => X.cell? ⟨p, 0, none⟩ = some (.int .i64 K1) ∧ X.cell? ⟨p, 1, none⟩ = some (.int .i64 N1) ∧ X.cell? ⟨p, 2, none⟩ = some (.float .f64 f1) ∧ X.cell? ⟨p, 3, none⟩ = some (.slice a1 m1 c1) ∧ X.cell? ⟨(p + 1), 0, none⟩ = some (.int .i64 K2) ∧ X.cell? ⟨(p + 1), 1, none⟩ = some (.int .i64 N2) ∧ X.cell? ⟨(p + 1), 2, none⟩ = some (.float .f64 f2) ∧ X.cell? ⟨(p + 1), 3, none⟩ = some (.slice a2 m2 c2) ∧ X.cell? ⟨(p + 1 + 1), 0, none⟩ = some (.int .i64 K3) ∧ X.cell? ⟨(p + 1 + 1), 1, none⟩ = some (.int .i64 N3) ∧ X.cell? ⟨(p + 1 + 1), 2, none⟩ = some (.float .f64 f3) ∧ X.cell? ⟨(p + 1 + 1), 3, none⟩ = some (.slice a3 m3 c3)) (by kernel_rfl) ?_ (fun hHeld => ?_)
    · exact HK.out _ bD.out
    refine anyK_take2 (i := 0) (v := ?v60008) rfl (by kernel_rfl) (by kernel_rfl) (by kernel_rfl) (by kernel_rfl) (fun _ _ _ h => h) (by rfl) hHeld ?hy60008 (some 49) (by rfl) ?rest60008
    case hy60008 => (intro W' hSw; (try dsimp only at hSw); go_simp; (try with_reducible rfl))
    try simp only [Act.put]
    try simp only [List.setIfInBounds_toArray]
    try simp only [List.set_cons_succ, List.set_cons_zero]
    refine anyK_take2 (i := 1) (v := ?v60009) rfl (by kernel_rfl) (by kernel_rfl) (by kernel_rfl) (by kernel_rfl) (fun _ _ _ h => h) (by rfl) hHeld ?hy60009 (some 50) (by rfl) ?rest60009
    case hy60009 => (intro W' hSw; (try dsimp only at hSw); go_simp; (try with_reducible rfl))
    try simp only [Act.put]
    try simp only [List.setIfInBounds_toArray]
    try simp only [List.set_cons_succ, List.set_cons_zero]
    refine anyK_take2 (i := 2) (v := ?v60010) rfl (by kernel_rfl) (by kernel_rfl) (by kernel_rfl) (by kernel_rfl) (fun _ _ _ h => h) (by rfl) hHeld ?hy60010 (some 51) (by rfl) ?rest60010
    case hy60010 => (intro W' hSw; (try dsimp only at hSw); go_simp; (try with_reducible rfl))
    try simp only [Act.put]
    try simp only [List.setIfInBounds_toArray]
    try simp only [List.set_cons_succ, List.set_cons_zero]
    refine anyK_take2 (i := 4) (v := ?v60011) rfl (by kernel_rfl) (by kernel_rfl) (by kernel_rfl) (by kernel_rfl) (fun _ _ _ h => h) (by rfl) hHeld ?hy60011 (some 53) (by rfl) ?rest60011
    case hy60011 => (intro W' hSw; (try dsimp only at hSw); go_simp; (try with_reducible rfl))
    try simp only [Act.put]
    try simp only [List.setIfInBounds_toArray]
    try simp only [List.set_cons_succ, List.set_cons_zero]
    refine anyK_step (i := 3) (by kernel_rfl) rfl (fun K0 hK => ?_)
    go_simp
    refine (G1.out _ bD.out).mono ?_
    rintro e u1 ⟨rfl, b1⟩
    have U1 := hid (bD.out.trans (b1.mono bD.out.size))
    clear b1
    go_wp2_with fail
    refine hK.out _ _ ?_ (fun hH2 => ?_)
    · exact HK.out _ U1.out
    clear hK K0 hHeld
    have hHeld := hH2
    clear hH2
    try simp only [Act.put]
    try simp only [List.setIfInBounds_toArray]
    try simp only [List.set_cons_succ, List.set_cons_zero]
    refine anyK_take2 (i := 5) (v := ?v60012) rfl (by kernel_rfl) (by kernel_rfl) (by kernel_rfl) (by kernel_rfl) (fun _ _ _ h => h) (by rfl) hHeld ?hy60012 (some 54) (by rfl) ?rest60012
    case hy60012 => (intro W' hSw; (try dsimp only at hSw); go_simp; (try with_reducible rfl))
    try simp only [Act.put]
    try simp only [List.setIfInBounds_toArray]
    try simp only [List.set_cons_succ, List.set_cons_zero]
    refine anyK_take2 (i := 6) (v := ?v60013) rfl (by kernel_rfl) (by kernel_rfl) (by kernel_rfl) (by kernel_rfl) (fun _ _ _ h => h) (by rfl) hHeld ?hy60013 (some 55) (by rfl) ?rest60013
    case hy60013 => (intro W' hSw; (try dsimp only at hSw); go_simp; (try with_reducible rfl))
    try simp only [Act.put]
    try simp only [List.setIfInBounds_toArray]
    try simp only [List.set_cons_succ, List.set_cons_zero]
    refine anyK_take2 (i := 7) (v := ?v60014) rfl (by kernel_rfl) (by kernel_rfl) (by kernel_rfl) (by kernel_rfl) (fun _ _ _ h => h) (by rfl) hHeld ?hy60014 (some 56) (by rfl) ?rest60014
    case hy60014 => (intro W' hSw; (try dsimp only at hSw); go_simp; (try with_reducible rfl))
    try simp only [Act.put]
    try simp only [List.setIfInBounds_toArray]
    try simp only [List.set_cons_succ, List.set_cons_zero]
    refine anyK_take2 (i := 8) (v := ?v60015) rfl (by kernel_rfl) (by kernel_rfl) (by kernel_rfl) (by kernel_rfl) (fun _ _ _ h => h) (by rfl) hHeld ?hy60015 (some 57) (by rfl) ?rest60015
    case hy60015 => (intro W' hSw; (try dsimp only at hSw); go_simp; (try with_reducible rfl))
    try simp only [Act.put]
    try simp only [List.setIfInBounds_toArray]
    try simp only [List.set_cons_succ, List.set_cons_zero]
    refine anyK_take2 (i := 9) (v := ?v60016) rfl (by kernel_rfl) (by kernel_rfl) (by kernel_rfl) (by kernel_rfl) (fun _ _ _ h => h) (by rfl) hHeld ?hy60016 (some 58) (by rfl) ?rest60016
    case hy60016 => (intro W' hSw; (try dsimp only at hSw); go_simp; (try with_reducible rfl))
    try simp only [Act.put]
    try simp only [List.setIfInBounds_toArray]
    try simp only [List.set_cons_succ, List.set_cons_zero]
    refine anyK_step (i := 10) (by kernel_rfl) rfl (fun K0 hK => ?_)
    go_simp
    refine (G2.out _ U1.out).mono ?_
    rintro e u2 ⟨rfl, b2⟩
    have U2 := hid (U1.out.trans (b2.mono U1.out.size))
    clear b2
    go_wp2_with fail
    refine hK.out _ _ ?_ (fun hH2 => ?_)
    · exact HK.out _ U2.out
    clear hK K0 hHeld
    have hHeld := hH2
    clear hH2
    try simp only [Act.put]
    try simp only [List.setIfInBounds_toArray]
    try simp only [List.set_cons_succ, List.set_cons_zero]
    refine anyK_take2 (i := 11) (v := ?v60017) rfl (by kernel_rfl) (by kernel_rfl) (by kernel_rfl) (by kernel_rfl) (fun _ _ _ h => h) (by rfl) hHeld ?hy60017 (some 60) (by rfl) ?rest60017
    case hy60017 => (intro W' hSw; (try dsimp only at hSw); go_simp; (try with_reducible rfl))
    try simp only [Act.put]
    try simp only [List.setIfInBounds_toArray]
    try simp only [List.set_cons_succ, List.set_cons_zero]
    refine anyK_take2 (i := 12) (v := ?v60018) rfl (by kernel_rfl) (by kernel_rfl) (by kernel_rfl) (by kernel_rfl) (fun _ _ _ h => h) (by rfl) hHeld ?hy60018 (some 61) (by rfl) ?rest60018
    case hy60018 => (intro W' hSw; (try dsimp only at hSw); go_simp; (try with_reducible rfl))
    try simp only [Act.put]
    try simp only [List.setIfInBounds_toArray]
    try simp only [List.set_cons_succ, List.set_cons_zero]
    refine anyK_take2 (i := 13) (v := ?v60019) rfl (by kernel_rfl) (by kernel_rfl) (by kernel_rfl) (by kernel_rfl) (fun _ _ _ h => h) (by rfl) hHeld ?hy60019 (some 62) (by rfl) ?rest60019
    case hy60019 => (intro W' hSw; (try dsimp only at hSw); go_simp; (try with_reducible rfl))
    try simp only [Act.put]
    try simp only [List.setIfInBounds_toArray]
    try simp only [List.set_cons_succ, List.set_cons_zero]
    refine anyK_take2 (i := 14) (v := ?v60020) rfl (by kernel_rfl) (by kernel_rfl) (by kernel_rfl) (by kernel_rfl) (fun _ _ _ h => h) (by rfl) hHeld ?hy60020 (some 63) (by rfl) ?rest60020
    case hy60020 => (intro W' hSw; (try dsimp only at hSw); go_simp; (try with_reducible rfl))
    try simp only [Act.put]
    try simp only [List.setIfInBounds_toArray]
    try simp only [List.set_cons_succ, List.set_cons_zero]
    refine anyK_take2 (i := 15) (v := ?v60021) rfl (by kernel_rfl) (by kernel_rfl) (by kernel_rfl) (by kernel_rfl) (fun _ _ _ h => h) (by rfl) hHeld ?hy60021 (some 64) (by rfl) ?rest60021
    case hy60021 => (intro W' hSw; (try dsimp only at hSw); go_simp; (try with_reducible rfl))
    try simp only [Act.put]
    try simp only [List.setIfInBounds_toArray]
    try simp only [List.set_cons_succ, List.set_cons_zero]
    refine anyK_take2 (i := 17) (v := ?v60022) rfl (by kernel_rfl) (by kernel_rfl) (by kernel_rfl) (by kernel_rfl) (fun _ _ _ h => h) (by rfl) hHeld ?hy60022 (some 66) (by rfl) ?rest60022
    case hy60022 => (intro W' hSw; (try dsimp only at hSw); go_simp; (try with_reducible rfl))
    try simp only [Act.put]
    try simp only [List.setIfInBounds_toArray]
    try simp only [List.set_cons_succ, List.set_cons_zero]
    refine anyK_take2 (i := 18) (v := ?v60023) rfl (by kernel_rfl) (by kernel_rfl) (by kernel_rfl) (by kernel_rfl) (fun _ _ _ h => h) (by rfl) hHeld ?hy60023 (some 67) (by rfl) ?rest60023
    case hy60023 => (intro W' hSw; (try dsimp only at hSw); go_simp; (try with_reducible rfl))
    try simp only [Act.put]
    try simp only [List.setIfInBounds_toArray]
    try simp only [List.set_cons_succ, List.set_cons_zero]
    refine anyK_step (i := 16) (by kernel_rfl) rfl (fun K0 hK => ?_)
    go_simp
    refine (G3.out _ U2.out).mono ?_
    rintro e u3 ⟨rfl, b3⟩
    have U3 := hid (U2.out.trans (b3.mono U2.out.size))
    clear b3
    go_wp2_with fail
    refine hK.out _ _ ?_ (fun hH2 => ?_)
    · exact HK.out _ U3.out
    clear hK K0 hHeld
    have hHeld := hH2
    clear hH2
    try simp only [Act.put]
    try simp only [List.setIfInBounds_toArray]
    try simp only [List.set_cons_succ, List.set_cons_zero]
    refine anyK_step (i := 19) (by kernel_rfl) rfl (fun K0 hK => ?_)
    go_simp
    refine (G4.out _ U3.out).mono ?_
    rintro e u4 ⟨rfl, b4⟩
    have U4 := hid (U3.out.trans (b4.mono U3.out.size))
    clear b4
    go_wp2_with fail
    refine hK.out _ _ ?_ (fun hH2 => ?_)
    · exact HK.out _ U4.out
    clear hK K0 hHeld
    have hHeld := hH2
    clear hH2
    try simp only [Act.put]
    try simp only [List.setIfInBounds_toArray]
    try simp only [List.set_cons_succ, List.set_cons_zero]
    refine anyK_take2 (i := 20) (v := ?v60024) rfl (by kernel_rfl) (by kernel_rfl) (by kernel_rfl) (by kernel_rfl) (fun _ _ _ h => h) (by rfl) hHeld ?hy60024 (some 69) (by rfl) ?rest60024
    case hy60024 => (intro W' hSw; (try dsimp only at hSw); go_simp; (try with_reducible rfl))
    try simp only [Act.put]
    try simp only [List.setIfInBounds_toArray]
    try simp only [List.set_cons_succ, List.set_cons_zero]
    refine anyK_take2 (i := 21) (v := ?v60025) rfl (by kernel_rfl) (by kernel_rfl) (by kernel_rfl) (by kernel_rfl) (fun _ _ _ h => h) (by rfl) hHeld ?hy60025 (some 70) (by rfl) ?rest60025
    case hy60025 => (intro W' hSw; (try dsimp only at hSw); go_simp; (try with_reducible rfl))
    try simp only [Act.put]
    try simp only [List.setIfInBounds_toArray]
    try simp only [List.set_cons_succ, List.set_cons_zero]
    refine anyK_step (i := 22) (by kernel_rfl) rfl (fun K0 hK => ?_)
    go_simp
    refine hK.out _ _ ?_ (fun hH2 => ?_)
    · exact HK.out _ U4.out
    clear hK K0 hHeld
    have hHeld := hH2
    clear hH2
    try simp only [Act.put]
    try simp only [List.setIfInBounds_toArray]
    try simp only [List.set_cons_succ, List.set_cons_zero]
    refine anyK_done (by kernel_rfl) ?_ _
    clear hHeld
    replace HB := hid (HB.out.trans (U4.out.mono HB.out.size))
    go_wp2_with fail
    go_ret
    exact ⟨rfl, HB.out⟩
  replace q1 := Decidable.not_not.1 q1
  rw [decide_eq_true q1] at L13 MS
  by_cases q2 : ¬ txt Z3 Z2 ≤ 0
  · rw [decide_eq_false q2] at L32 MS
    refine region_K 99 (fun X => (X.cell? ⟨p, 0, none⟩ = some (.int .i64 K1) ∧ X.cell? ⟨p, 1, none⟩ = some (.int .i64 N1) ∧ X.cell? ⟨p, 2, none⟩ = some (.float .f64 f1) ∧ X.cell? ⟨p, 3, none⟩ = some (.slice a1 m1 c1) ∧ X.cell? ⟨(p + 1), 0, none⟩ = some (.int .i64 K2) ∧ X.cell? ⟨(p + 1), 1, none⟩ = some (.int .i64 N2) ∧ X.cell? ⟨(p + 1), 2, none⟩ = some (.float .f64 f2) ∧ X.cell? ⟨(p + 1), 3, none⟩ = some (.slice a2 m2 c2) ∧ X.cell? ⟨(p + 1 + 1), 0, none⟩ = some (.int .i64 K3) ∧ X.cell? ⟨(p + 1 + 1), 1, none⟩ = some (.int .i64 N3) ∧ X.cell? ⟨(p + 1 + 1), 2, none⟩ = some (.float .f64 f3) ∧ X.cell? ⟨(p + 1 + 1), 3, none⟩ = some (.slice a3 m3 c3))) (by kernel_rfl) ?_ (fun hHeld => ?_)
    · exact HK.out _ bD.out
    refine anyK_take2 (i := 0) (v := ?v60026) rfl (by kernel_rfl) (by kernel_rfl) (by kernel_rfl) (by kernel_rfl) (fun _ _ _ h => h) (by rfl) hHeld ?hy60026 (some 33) (by rfl) ?rest60026
    case hy60026 => (intro W' hSw; (try dsimp only at hSw); go_simp; (try with_reducible rfl))
    try simp only [Act.put]
    try simp only [List.setIfInBounds_toArray]
    try simp only [List.set_cons_succ, List.set_cons_zero]
    refine anyK_take2 (i := 3) (v := ?v60027) rfl (by kernel_rfl) (by kernel_rfl) (by kernel_rfl) (by kernel_rfl) (fun _ _ _ h => h) (by rfl) hHeld ?hy60027 (some 36) (by rfl) ?rest60027
    case hy60027 => (intro W' hSw; (try dsimp only at hSw); go_simp; (try with_reducible rfl))
    try simp only [Act.put]
    try simp only [List.setIfInBounds_toArray]
    try simp only [List.set_cons_succ, List.set_cons_zero]
    refine anyK_step (i := 1) (by kernel_rfl) rfl (fun K0 hK => ?_)
    go_simp
    refine (CB1.out _ bD.out).mono ?_
    rintro e y1 ⟨s1, rfl, o1, b1⟩
    obtain ⟨p1, d1, rfl, rp1, -⟩ := Reads.own o1 BZ1.out
    have RP1 := hid rp1
    have Y1 := hid (bD.out.trans (b1.mono bD.out.size))
    clear rp1 o1 b1
    go_wp2_with fail
    refine hK.out _ _ ?_ (fun hH2 => ?_)
    · exact HK.out _ Y1.out
    clear hK K0 hHeld
    have hHeld := hH2
    clear hH2
    try simp only [Act.put]
    try simp only [List.setIfInBounds_toArray]
    try simp only [List.set_cons_succ, List.set_cons_zero]
    refine anyK_more (fun X => (X.cell? ⟨p, 0, none⟩ = some (.int .i64 K1) ∧ X.cell? ⟨p, 1, none⟩ = some (.int .i64 N1) ∧ X.cell? ⟨p, 2, none⟩ = some (.float .f64 f1) ∧ X.cell? ⟨p, 3, none⟩ = some (.slice a1 m1 c1) ∧ X.cell? ⟨(p + 1), 0, none⟩ = some (.int .i64 K2) ∧ X.cell? ⟨(p + 1), 1, none⟩ = some (.int .i64 N2) ∧ X.cell? ⟨(p + 1), 2, none⟩ = some (.float .f64 f2) ∧ X.cell? ⟨(p + 1), 3, none⟩ = some (.slice a2 m2 c2) ∧ X.cell? ⟨(p + 1 + 1), 0, none⟩ = some (.int .i64 K3) ∧ X.cell? ⟨(p + 1 + 1), 1, none⟩ = some (.int .i64 N3) ∧ X.cell? ⟨(p + 1 + 1), 2, none⟩ = some (.float .f64 f3) ∧ X.cell? ⟨(p + 1 + 1), 3, none⟩ = some (.slice a3 m3 c3)) ∧ (convert 22 9 (.slice p1 Z1.length d1)).run Try.prog X = .ok (.string (str Z1)) X) (fun _ h => h.1) ⟨HK.out _ Y1.out, RP1.out.str d1 22 Try.underlying22 Try.underlying5 Try.underlying9⟩ (fun hH3 => ?_)
    clear hHeld
    have hHeld := hH3
    clear hH3
    refine anyK_take2 (i := 2) (v := ?v60028) rfl (by kernel_rfl) (by kernel_rfl) (by kernel_rfl) (by kernel_rfl) (fun _ _ _ h => h) (by rfl) hHeld ?hy60028 (some 35) (by rfl) ?rest60028
    case hy60028 => (intro W' hSw; (try dsimp only at hSw); go_simp; (try with_reducible rfl))
    try simp only [Act.put]
    try simp only [List.setIfInBounds_toArray]
    try simp only [List.set_cons_succ, List.set_cons_zero]
    refine anyK_step (i := 4) (by kernel_rfl) rfl (fun K0 hK => ?_)
    go_simp
    refine (CB3.out _ Y1.out).mono ?_
    rintro e y2 ⟨s2, rfl, o2, b2⟩
    obtain ⟨p2, d2, rfl, rp2, -⟩ := Reads.own o2 BZ3.out
    replace RP1 := hid (RP1.out.below b2 (Nat.le_refl _))
    have RP2 := hid rp2
    have Y2 := hid (Y1.out.trans (b2.mono Y1.out.size))
    clear rp2 o2 b2
    go_wp2_with fail
    refine hK.out _ _ ?_ (fun hH2 => ?_)
    · exact ⟨HK.out _ Y2.out, RP1.out.str d1 22 Try.underlying22 Try.underlying5 Try.underlying9⟩
    clear hK K0 hHeld
    have hHeld := hH2
    clear hH2
    try simp only [Act.put]
    try simp only [List.setIfInBounds_toArray]
    try simp only [List.set_cons_succ, List.set_cons_zero]
    refine anyK_more (fun X => (X.cell? ⟨p, 0, none⟩ = some (.int .i64 K1) ∧ X.cell? ⟨p, 1, none⟩ = some (.int .i64 N1) ∧ X.cell? ⟨p, 2, none⟩ = some (.float .f64 f1) ∧ X.cell? ⟨p, 3, none⟩ = some (.slice a1 m1 c1) ∧ X.cell? ⟨(p + 1), 0, none⟩ = some (.int .i64 K2) ∧ X.cell? ⟨(p + 1), 1, none⟩ = some (.int .i64 N2) ∧ X.cell? ⟨(p + 1), 2, none⟩ = some (.float .f64 f2) ∧ X.cell? ⟨(p + 1), 3, none⟩ = some (.slice a2 m2 c2) ∧ X.cell? ⟨(p + 1 + 1), 0, none⟩ = some (.int .i64 K3) ∧ X.cell? ⟨(p + 1 + 1), 1, none⟩ = some (.int .i64 N3) ∧ X.cell? ⟨(p + 1 + 1), 2, none⟩ = some (.float .f64 f3) ∧ X.cell? ⟨(p + 1 + 1), 3, none⟩ = some (.slice a3 m3 c3)) ∧ (convert 22 9 (.slice p1 Z1.length d1)).run Try.prog X = .ok (.string (str Z1)) X ∧ (convert 22 9 (.slice p2 Z3.length d2)).run Try.prog X = .ok (.string (str Z3)) X) (fun _ h => ⟨h.1, h.2.1⟩) ⟨HK.out _ Y2.out, RP1.out.str d1 22 Try.underlying22 Try.underlying5 Try.underlying9, RP2.out.str d2 22 Try.underlying22 Try.underlying5 Try.underlying9⟩ (fun hH3 => ?_)
    clear hHeld
    have hHeld := hH3
    clear hH3
    refine anyK_take2 (i := 5) (v := ?v60029) rfl (by kernel_rfl) (by kernel_rfl) (by kernel_rfl) (by kernel_rfl) (fun _ _ _ h => h) (by rfl) hHeld ?hy60029 (some 38) (by rfl) ?rest60029
    case hy60029 => (intro W' hSw; (try dsimp only at hSw); go_simp; (try with_reducible rfl))
    try simp only [Act.put]
    try simp only [List.setIfInBounds_toArray]
    try simp only [List.set_cons_succ, List.set_cons_zero]
    refine anyK_take2 (i := 6) (v := ?v60030) rfl (by kernel_rfl) (by kernel_rfl) (by kernel_rfl) (by kernel_rfl) (fun _ _ _ h => h) (by rfl) hHeld ?hy60030 (some 39) (by rfl) ?rest60030
    case hy60030 => (intro W' hSw; (try dsimp only at hSw); go_simp; (try with_reducible rfl))
    try simp only [Act.put]
    try simp only [List.setIfInBounds_toArray]
    try simp only [List.set_cons_succ, List.set_cons_zero]
    try simp only [L13]
    refine anyK_take2 (i := 7) (v := ?v60031) rfl (by kernel_rfl) (by kernel_rfl) (by kernel_rfl) (by kernel_rfl) (fun _ _ _ h => h) (by rfl) hHeld ?hy60031 (some 40) (by rfl) ?rest60031
    case hy60031 => (intro W' hSw; (try dsimp only at hSw); go_simp; (try with_reducible rfl))
    try simp only [Act.put]
    try simp only [List.setIfInBounds_toArray]
    try simp only [List.set_cons_succ, List.set_cons_zero]
    refine anyK_take2 (i := 8) (v := ?v60032) rfl (by kernel_rfl) (by kernel_rfl) (by kernel_rfl) (by kernel_rfl) (fun _ _ _ h => h) (by rfl) hHeld ?hy60032 (some 41) (by rfl) ?rest60032
    case hy60032 => (intro W' hSw; (try dsimp only at hSw); go_simp; (try with_reducible rfl))
    try simp only [Act.put]
    try simp only [List.setIfInBounds_toArray]
    try simp only [List.set_cons_succ, List.set_cons_zero]
    refine anyK_take2 (i := 11) (v := ?v60033) rfl (by kernel_rfl) (by kernel_rfl) (by kernel_rfl) (by kernel_rfl) (fun _ _ _ h => h) (by rfl) hHeld ?hy60033 (some 44) (by rfl) ?rest60033
    case hy60033 => (intro W' hSw; (try dsimp only at hSw); go_simp; (try with_reducible rfl))
    try simp only [Act.put]
    try simp only [List.setIfInBounds_toArray]
    try simp only [List.set_cons_succ, List.set_cons_zero]
    refine anyK_step (i := 9) (by kernel_rfl) rfl (fun K0 hK => ?_)
    go_simp
    refine (CB3.out _ Y2.out).mono ?_
    rintro e y3 ⟨s3, rfl, o3, b3⟩
    obtain ⟨p3, d3, rfl, rp3, -⟩ := Reads.own o3 BZ3.out
    replace RP1 := hid (RP1.out.below b3 (Nat.le_refl _))
    replace RP2 := hid (RP2.out.below b3 (Nat.le_refl _))
    have RP3 := hid rp3
    have Y3 := hid (Y2.out.trans (b3.mono Y2.out.size))
    clear rp3 o3 b3
    go_wp2_with fail
    refine hK.out _ _ ?_ (fun hH2 => ?_)
    · exact ⟨HK.out _ Y3.out, RP1.out.str d1 22 Try.underlying22 Try.underlying5 Try.underlying9, RP2.out.str d2 22 Try.underlying22 Try.underlying5 Try.underlying9⟩
    clear hK K0 hHeld
    have hHeld := hH2
    clear hH2
    try simp only [Act.put]
    try simp only [List.setIfInBounds_toArray]
    try simp only [List.set_cons_succ, List.set_cons_zero]
    refine anyK_more (fun X => (X.cell? ⟨p, 0, none⟩ = some (.int .i64 K1) ∧ X.cell? ⟨p, 1, none⟩ = some (.int .i64 N1) ∧ X.cell? ⟨p, 2, none⟩ = some (.float .f64 f1) ∧ X.cell? ⟨p, 3, none⟩ = some (.slice a1 m1 c1) ∧ X.cell? ⟨(p + 1), 0, none⟩ = some (.int .i64 K2) ∧ X.cell? ⟨(p + 1), 1, none⟩ = some (.int .i64 N2) ∧ X.cell? ⟨(p + 1), 2, none⟩ = some (.float .f64 f2) ∧ X.cell? ⟨(p + 1), 3, none⟩ = some (.slice a2 m2 c2) ∧ X.cell? ⟨(p + 1 + 1), 0, none⟩ = some (.int .i64 K3) ∧ X.cell? ⟨(p + 1 + 1), 1, none⟩ = some (.int .i64 N3) ∧ X.cell? ⟨(p + 1 + 1), 2, none⟩ = some (.float .f64 f3) ∧ X.cell? ⟨(p + 1 + 1), 3, none⟩ = some (.slice a3 m3 c3)) ∧ (convert 22 9 (.slice p1 Z1.length d1)).run Try.prog X = .ok (.string (str Z1)) X ∧ (convert 22 9 (.slice p2 Z3.length d2)).run Try.prog X = .ok (.string (str Z3)) X ∧ (convert 22 9 (.slice p3 Z3.length d3)).run Try.prog X = .ok (.string (str Z3)) X) (fun _ h => ⟨h.1, h.2.1, h.2.2.1⟩) ⟨HK.out _ Y3.out, RP1.out.str d1 22 Try.underlying22 Try.underlying5 Try.underlying9, RP2.out.str d2 22 Try.underlying22 Try.underlying5 Try.underlying9, RP3.out.str d3 22 Try.underlying22 Try.underlying5 Try.underlying9⟩ (fun hH3 => ?_)
    clear hHeld
    have hHeld := hH3
    clear hH3
    refine anyK_take2 (i := 10) (v := ?v60034) rfl (by kernel_rfl) (by kernel_rfl) (by kernel_rfl) (by kernel_rfl) (fun _ _ _ h => h) (by rfl) hHeld ?hy60034 (some 43) (by rfl) ?rest60034
    case hy60034 => (intro W' hSw; (try dsimp only at hSw); go_simp; (try with_reducible rfl))
    try simp only [Act.put]
    try simp only [List.setIfInBounds_toArray]
    try simp only [List.set_cons_succ, List.set_cons_zero]
    refine anyK_step (i := 12) (by kernel_rfl) rfl (fun K0 hK => ?_)
    go_simp
    refine (CB2.out _ Y3.out).mono ?_
    rintro e y4 ⟨s4, rfl, o4, b4⟩
    obtain ⟨p4, d4, rfl, rp4, -⟩ := Reads.own o4 BZ2.out
    replace RP1 := hid (RP1.out.below b4 (Nat.le_refl _))
    replace RP2 := hid (RP2.out.below b4 (Nat.le_refl _))
    replace RP3 := hid (RP3.out.below b4 (Nat.le_refl _))
    have RP4 := hid rp4
    have Y4 := hid (Y3.out.trans (b4.mono Y3.out.size))
    clear rp4 o4 b4
    go_wp2_with fail
    refine hK.out _ _ ?_ (fun hH2 => ?_)
    · exact ⟨HK.out _ Y4.out, RP1.out.str d1 22 Try.underlying22 Try.underlying5 Try.underlying9, RP2.out.str d2 22 Try.underlying22 Try.underlying5 Try.underlying9, RP3.out.str d3 22 Try.underlying22 Try.underlying5 Try.underlying9⟩
    clear hK K0 hHeld
    have hHeld := hH2
    clear hH2
    try simp only [Act.put]
    try simp only [List.setIfInBounds_toArray]
    try simp only [List.set_cons_succ, List.set_cons_zero]
    refine anyK_more (fun X => (X.cell? ⟨p, 0, none⟩ = some (.int .i64 K1) ∧ X.cell? ⟨p, 1, none⟩ = some (.int .i64 N1) ∧ X.cell? ⟨p, 2, none⟩ = some (.float .f64 f1) ∧ X.cell? ⟨p, 3, none⟩ = some (.slice a1 m1 c1) ∧ X.cell? ⟨(p + 1), 0, none⟩ = some (.int .i64 K2) ∧ X.cell? ⟨(p + 1), 1, none⟩ = some (.int .i64 N2) ∧ X.cell? ⟨(p + 1), 2, none⟩ = some (.float .f64 f2) ∧ X.cell? ⟨(p + 1), 3, none⟩ = some (.slice a2 m2 c2) ∧ X.cell? ⟨(p + 1 + 1), 0, none⟩ = some (.int .i64 K3) ∧ X.cell? ⟨(p + 1 + 1), 1, none⟩ = some (.int .i64 N3) ∧ X.cell? ⟨(p + 1 + 1), 2, none⟩ = some (.float .f64 f3) ∧ X.cell? ⟨(p + 1 + 1), 3, none⟩ = some (.slice a3 m3 c3)) ∧ (convert 22 9 (.slice p1 Z1.length d1)).run Try.prog X = .ok (.string (str Z1)) X ∧ (convert 22 9 (.slice p2 Z3.length d2)).run Try.prog X = .ok (.string (str Z3)) X ∧ (convert 22 9 (.slice p3 Z3.length d3)).run Try.prog X = .ok (.string (str Z3)) X ∧ (convert 22 9 (.slice p4 Z2.length d4)).run Try.prog X = .ok (.string (str Z2)) X) (fun _ h => ⟨h.1, h.2.1, h.2.2.1, h.2.2.2.1⟩) ⟨HK.out _ Y4.out, RP1.out.str d1 22 Try.underlying22 Try.underlying5 Try.underlying9, RP2.out.str d2 22 Try.underlying22 Try.underlying5 Try.underlying9, RP3.out.str d3 22 Try.underlying22 Try.underlying5 Try.underlying9, RP4.out.str d4 22 Try.underlying22 Try.underlying5 Try.underlying9⟩ (fun hH3 => ?_)
    clear hHeld
    have hHeld := hH3
    clear hH3
    refine anyK_take2 (i := 13) (v := ?v60035) rfl (by kernel_rfl) (by kernel_rfl) (by kernel_rfl) (by kernel_rfl) (fun _ _ _ h => h) (by rfl) hHeld ?hy60035 (some 46) (by rfl) ?rest60035
    case hy60035 => (intro W' hSw; (try dsimp only at hSw); go_simp; (try with_reducible rfl))
    try simp only [Act.put]
    try simp only [List.setIfInBounds_toArray]
    try simp only [List.set_cons_succ, List.set_cons_zero]
    refine anyK_take2 (i := 14) (v := ?v60036) rfl (by kernel_rfl) (by kernel_rfl) (by kernel_rfl) (by kernel_rfl) (fun _ _ _ h => h) (by rfl) hHeld ?hy60036 (some 47) (by rfl) ?rest60036
    case hy60036 => (intro W' hSw; (try dsimp only at hSw); go_simp; (try with_reducible rfl))
    try simp only [Act.put]
    try simp only [List.setIfInBounds_toArray]
    try simp only [List.set_cons_succ, List.set_cons_zero]
    try simp only [L32]
    refine anyK_take2 (i := 15) (v := ?v60037) rfl (by kernel_rfl) (by kernel_rfl) (by kernel_rfl) (by kernel_rfl) (fun _ _ _ h => h) (by rfl) hHeld ?hy60037 (some 48) (by rfl) ?rest60037
    case hy60037 => (intro W' hSw; (try dsimp only at hSw); go_simp; (try with_reducible rfl))
    try simp only [Act.put]
    try simp only [List.setIfInBounds_toArray]
    try simp only [List.set_cons_succ, List.set_cons_zero]
    refine anyK_step (i := 16) (by kernel_rfl) rfl (fun K0 hK => ?_)
    go_simp
    refine hK.out _ _ ?_ (fun hH2 => ?_)
    · exact ⟨HK.out _ Y4.out, RP1.out.str d1 22 Try.underlying22 Try.underlying5 Try.underlying9, RP2.out.str d2 22 Try.underlying22 Try.underlying5 Try.underlying9, RP3.out.str d3 22 Try.underlying22 Try.underlying5 Try.underlying9, RP4.out.str d4 22 Try.underlying22 Try.underlying5 Try.underlying9⟩
    clear hK K0 hHeld
    have hHeld := hH2
    clear hH2
    try simp only [Act.put]
    try simp only [List.setIfInBounds_toArray]
    try simp only [List.set_cons_succ, List.set_cons_zero]
    refine anyK_done (by kernel_rfl) ?_ _
    clear hHeld
    clear CB1 CB2 CB3 HK bD BZ1 BZ2 BZ3 L13 L32
    replace HB := hid (HB.out.trans (Y4.out.mono HB.out.size))
    replace I1 := hid (I1.out.below Y4.out (Nat.le_refl _))
    replace I2 := hid (I2.out.below Y4.out (Nat.le_refl _))
    replace I3 := hid (I3.out.below Y4.out (Nat.le_refl _))
    replace T1 := hid ((Y4.out.block _ (Array.getElem?_eq_some_iff.1 T1.out).1).trans T1.out)
    replace T2 := hid ((Y4.out.block _ (Array.getElem?_eq_some_iff.1 T2.out).1).trans T2.out)
    replace T3 := hid ((Y4.out.block _ (Array.getElem?_eq_some_iff.1 T3.out).1).trans T3.out)
    clear RP1 RP2 RP3 RP4 Y1 Y2 Y3 Y4
    go_wp2_with fail
    have HK := hid (show ∀ X, Below y4.heap.size y4 X → (X.cell? ⟨p, 0, none⟩ = some (.int .i64 K1) ∧ X.cell? ⟨p, 1, none⟩ = some (.int .i64 N1) ∧ X.cell? ⟨p, 2, none⟩ = some (.float .f64 f1) ∧ X.cell? ⟨p, 3, none⟩ = some (.slice a1 m1 c1) ∧ X.cell? ⟨(p + 1), 0, none⟩ = some (.int .i64 K2) ∧ X.cell? ⟨(p + 1), 1, none⟩ = some (.int .i64 N2) ∧ X.cell? ⟨(p + 1), 2, none⟩ = some (.float .f64 f2) ∧ X.cell? ⟨(p + 1), 3, none⟩ = some (.slice a2 m2 c2) ∧ X.cell? ⟨(p + 1 + 1), 0, none⟩ = some (.int .i64 K3) ∧ X.cell? ⟨(p + 1 + 1), 1, none⟩ = some (.int .i64 N3) ∧ X.cell? ⟨(p + 1 + 1), 2, none⟩ = some (.float .f64 f3) ∧ X.cell? ⟨(p + 1 + 1), 3, none⟩ = some (.slice a3 m3 c3)) from fun X b => by
      have t1 := ibox_cells ((b.block _ (Array.getElem?_eq_some_iff.1 T1.out).1).trans T1.out)
      have t2 := ibox_cells ((b.block _ (Array.getElem?_eq_some_iff.1 T2.out).1).trans T2.out)
      have t3 := ibox_cells ((b.block _ (Array.getElem?_eq_some_iff.1 T3.out).1).trans T3.out)
      exact ⟨t1.1, t1.2.1, t1.2.2.1, t1.2.2.2, t2.1, t2.2.1, t2.2.2.1, t2.2.2.2, t3.1, t3.2.1, t3.2.2.1, t3.2.2.2⟩)
    have bD := hid ((Still.drew y4).below y4.heap.size)
    have E3 := hid (inSp_self K3 N3 f3 m3 D3 ok3 I3.out.rd.len I3.out.n0 I3.out.n1 I3.out.f0)
    have EE := hid (inSp_one K3 N3 K2 N2 f3 f2 m3 m2 D3 D2 ok3 ok2 I3.out.rd.len I2.out.rd.len I3.out.n0 I3.out.n1 I2.out.n0 I2.out.n1 I3.out.f0 I2.out.f0)
    have G1 := hid (fun (X : World) (b : Below y4.heap.size y4 X) => impl_InSpan K1 N1 K2 N2 K3 N3 f1 f2 f3 c1 c2 c3 I1.out.f0 I2.out.f0 I3.out.f0 (I1.out.rd.below b (Nat.le_refl _)) (I2.out.rd.below b (Nat.le_refl _)) (I3.out.rd.below b (Nat.le_refl _)) (by have := I1.out.m0; omega) (by have := I2.out.m0; omega) (by have := I3.out.m0; omega))
    have G2 := hid (fun (X : World) (b : Below y4.heap.size y4 X) => impl_InSpan K3 N3 K3 N3 K3 N3 f3 f3 f3 c3 c3 c3 I3.out.f0 I3.out.f0 I3.out.f0 (I3.out.rd.below b (Nat.le_refl _)) (I3.out.rd.below b (Nat.le_refl _)) (I3.out.rd.below b (Nat.le_refl _)) (by have := I3.out.m0; omega) (by have := I3.out.m0; omega) (by have := I3.out.m0; omega))
    have G3 := hid (fun (X : World) (b : Below y4.heap.size y4 X) => impl_InSpan K3 N3 K3 N3 K2 N2 f3 f3 f2 c3 c3 c2 I3.out.f0 I3.out.f0 I2.out.f0 (I3.out.rd.below b (Nat.le_refl _)) (I3.out.rd.below b (Nat.le_refl _)) (I2.out.rd.below b (Nat.le_refl _)) (by have := I3.out.m0; omega) (by have := I3.out.m0; omega) (by have := I2.out.m0; omega))
    have G4 := hid (fun (X : World) (b : Below y4.heap.size y4 X) => law_same K3 N3 K2 N2 f3 f2 c3 c2 I3.out.f0 I2.out.f0 (I3.out.rd.below b (Nat.le_refl _)) (I2.out.rd.below b (Nat.le_refl _)))
    rw [MS.out] at G1
    have hv : (true && false) = false := by simp
    rw [hv] at G1
    clear hv
    rw [E3.out] at G2
    rw [EE.out] at G3
    generalize decide (K3 = K2 ∧ N3 = N2 ∧ fbits f3 = fbits f2 ∧ D3 = D2) = E at G3 G4
    clear E3 EE MS
    refine region_K 99 (fun X => X.cell? ⟨p, 0, none⟩ = some (.int .i64 K1) ∧ X.cell? ⟨p, 1, none⟩ = some (.int .i64 N1) ∧ X.cell? ⟨p, 2, none⟩ = some (.float .f64 f1) ∧ X.cell? ⟨p, 3, none⟩ = some (.slice a1 m1 c1) ∧ X.cell? ⟨(p + 1), 0, none⟩ = some (.int .i64 K2) ∧ X.cell? ⟨(p + 1), 1, none⟩ = some (.int .i64 N2) ∧ X.cell? ⟨(p + 1), 2, none⟩ = some (.float .f64 f2) ∧ X.cell? ⟨(p + 1), 3, none⟩ = some (.slice a2 m2 c2) ∧ X.cell? ⟨(p + 1 + 1), 0, none⟩ = some (.int .i64 K3) ∧ X.cell? ⟨(p + 1 + 1), 1, none⟩ = some (.int .i64 N3) ∧ X.cell? ⟨(p + 1 + 1), 2, none⟩ = some (.float .f64 f3) ∧ X.cell? ⟨(p + 1 + 1), 3, none⟩ = some (.slice a3 m3 c3)) (by kernel_rfl) ?_ (fun hHeld => ?_)
    · exact HK.out _ bD.out
    refine anyK_take2 (i := 0) (v := ?v60038) rfl (by kernel_rfl) (by kernel_rfl) (by kernel_rfl) (by kernel_rfl) (fun _ _ _ h => h) (by rfl) hHeld ?hy60038 (some 49) (by rfl) ?rest60038
    case hy60038 => (intro W' hSw; (try dsimp only at hSw); go_simp; (try with_reducible rfl))
    try simp only [Act.put]
    try simp only [List.setIfInBounds_toArray]
    try simp only [List.set_cons_succ, List.set_cons_zero]
    refine anyK_take2 (i := 1) (v := ?v60039) rfl (by kernel_rfl) (by kernel_rfl) (by kernel_rfl) (by kernel_rfl) (fun _ _ _ h => h) (by rfl) hHeld ?hy60039 (some 50) (by rfl) ?rest60039
    case hy60039 => (intro W' hSw; (try dsimp only at hSw); go_simp; (try with_reducible rfl))
    try simp only [Act.put]
    try simp only [List.setIfInBounds_toArray]
    try simp only [List.set_cons_succ, List.set_cons_zero]
    refine anyK_take2 (i := 2) (v := ?v60040) rfl (by kernel_rfl) (by kernel_rfl) (by kernel_rfl) (by kernel_rfl) (fun _ _ _ h => h) (by rfl) hHeld ?hy60040 (some 51) (by rfl) ?rest60040
    case hy60040 => (intro W' hSw; (try dsimp only at hSw); go_simp; (try with_reducible rfl))
    try simp only [Act.put]
    try simp only [List.setIfInBounds_toArray]
    try simp only [List.set_cons_succ, List.set_cons_zero]
    refine anyK_take2 (i := 4) (v := ?v60041) rfl (by kernel_rfl) (by kernel_rfl) (by kernel_rfl) (by kernel_rfl) (fun _ _ _ h => h) (by rfl) hHeld ?hy60041 (some 53) (by rfl) ?rest60041
    case hy60041 => (intro W' hSw; (try dsimp only at hSw); go_simp; (try with_reducible rfl))
    try simp only [Act.put]
    try simp only [List.setIfInBounds_toArray]
    try simp only [List.set_cons_succ, List.set_cons_zero]
    refine anyK_step (i := 3) (by kernel_rfl) rfl (fun K0 hK => ?_)
    go_simp
    refine (G1.out _ bD.out).mono ?_
    rintro e u1 ⟨rfl, b1⟩
    have U1 := hid (bD.out.trans (b1.mono bD.out.size))
    clear b1
    go_wp2_with fail
    refine hK.out _ _ ?_ (fun hH2 => ?_)
    · exact HK.out _ U1.out
    clear hK K0 hHeld
    have hHeld := hH2
    clear hH2
    try simp only [Act.put]
    try simp only [List.setIfInBounds_toArray]
    try simp only [List.set_cons_succ, List.set_cons_zero]
    refine anyK_take2 (i := 5) (v := ?v60042) rfl (by kernel_rfl) (by kernel_rfl) (by kernel_rfl) (by kernel_rfl) (fun _ _ _ h => h) (by rfl) hHeld ?hy60042 (some 54) (by rfl) ?rest60042
    case hy60042 => (intro W' hSw; (try dsimp only at hSw); go_simp; (try with_reducible rfl))
    try simp only [Act.put]
    try simp only [List.setIfInBounds_toArray]
    try simp only [List.set_cons_succ, List.set_cons_zero]
    refine anyK_take2 (i := 6) (v := ?v60043) rfl (by kernel_rfl) (by kernel_rfl) (by kernel_rfl) (by kernel_rfl) (fun _ _ _ h => h) (by rfl) hHeld ?hy60043 (some 55) (by rfl) ?rest60043
    case hy60043 => (intro W' hSw; (try dsimp only at hSw); go_simp; (try with_reducible rfl))
    try simp only [Act.put]
    try simp only [List.setIfInBounds_toArray]
    try simp only [List.set_cons_succ, List.set_cons_zero]
    refine anyK_take2 (i := 7) (v := ?v60044) rfl (by kernel_rfl) (by kernel_rfl) (by kernel_rfl) (by kernel_rfl) (fun _ _ _ h => h) (by rfl) hHeld ?hy60044 (some 56) (by rfl) ?rest60044
    case hy60044 => (intro W' hSw; (try dsimp only at hSw); go_simp; (try with_reducible rfl))
    try simp only [Act.put]
    try simp only [List.setIfInBounds_toArray]
    try simp only [List.set_cons_succ, List.set_cons_zero]
    refine anyK_take2 (i := 8) (v := ?v60045) rfl (by kernel_rfl) (by kernel_rfl) (by kernel_rfl) (by kernel_rfl) (fun _ _ _ h => h) (by rfl) hHeld ?hy60045 (some 57) (by rfl) ?rest60045
    case hy60045 => (intro W' hSw; (try dsimp only at hSw); go_simp; (try with_reducible rfl))
    try simp only [Act.put]
    try simp only [List.setIfInBounds_toArray]
    try simp only [List.set_cons_succ, List.set_cons_zero]
    refine anyK_take2 (i := 9) (v := ?v60046) rfl (by kernel_rfl) (by kernel_rfl) (by kernel_rfl) (by kernel_rfl) (fun _ _ _ h => h) (by rfl) hHeld ?hy60046 (some 58) (by rfl) ?rest60046
    case hy60046 => (intro W' hSw; (try dsimp only at hSw); go_simp; (try with_reducible rfl))
    try simp only [Act.put]
    try simp only [List.setIfInBounds_toArray]
    try simp only [List.set_cons_succ, List.set_cons_zero]
    refine anyK_step (i := 10) (by kernel_rfl) rfl (fun K0 hK => ?_)
    go_simp
    refine (G2.out _ U1.out).mono ?_
    rintro e u2 ⟨rfl, b2⟩
    have U2 := hid (U1.out.trans (b2.mono U1.out.size))
    clear b2
    go_wp2_with fail
    refine hK.out _ _ ?_ (fun hH2 => ?_)
    · exact HK.out _ U2.out
    clear hK K0 hHeld
    have hHeld := hH2
    clear hH2
    try simp only [Act.put]
    try simp only [List.setIfInBounds_toArray]
    try simp only [List.set_cons_succ, List.set_cons_zero]
    refine anyK_take2 (i := 11) (v := ?v60047) rfl (by kernel_rfl) (by kernel_rfl) (by kernel_rfl) (by kernel_rfl) (fun _ _ _ h => h) (by rfl) hHeld ?hy60047 (some 60) (by rfl) ?rest60047
    case hy60047 => (intro W' hSw; (try dsimp only at hSw); go_simp; (try with_reducible rfl))
    try simp only [Act.put]
    try simp only [List.setIfInBounds_toArray]
    try simp only [List.set_cons_succ, List.set_cons_zero]
    refine anyK_take2 (i := 12) (v := ?v60048) rfl (by kernel_rfl) (by kernel_rfl) (by kernel_rfl) (by kernel_rfl) (fun _ _ _ h => h) (by rfl) hHeld ?hy60048 (some 61) (by rfl) ?rest60048
    case hy60048 => (intro W' hSw; (try dsimp only at hSw); go_simp; (try with_reducible rfl))
    try simp only [Act.put]
    try simp only [List.setIfInBounds_toArray]
    try simp only [List.set_cons_succ, List.set_cons_zero]
    refine anyK_take2 (i := 13) (v := ?v60049) rfl (by kernel_rfl) (by kernel_rfl) (by kernel_rfl) (by kernel_rfl) (fun _ _ _ h => h) (by rfl) hHeld ?hy60049 (some 62) (by rfl) ?rest60049
    case hy60049 => (intro W' hSw; (try dsimp only at hSw); go_simp; (try with_reducible rfl))
    try simp only [Act.put]
    try simp only [List.setIfInBounds_toArray]
    try simp only [List.set_cons_succ, List.set_cons_zero]
    refine anyK_take2 (i := 14) (v := ?v60050) rfl (by kernel_rfl) (by kernel_rfl) (by kernel_rfl) (by kernel_rfl) (fun _ _ _ h => h) (by rfl) hHeld ?hy60050 (some 63) (by rfl) ?rest60050
    case hy60050 => (intro W' hSw; (try dsimp only at hSw); go_simp; (try with_reducible rfl))
    try simp only [Act.put]
    try simp only [List.setIfInBounds_toArray]
    try simp only [List.set_cons_succ, List.set_cons_zero]
    refine anyK_take2 (i := 15) (v := ?v60051) rfl (by kernel_rfl) (by kernel_rfl) (by kernel_rfl) (by kernel_rfl) (fun _ _ _ h => h) (by rfl) hHeld ?hy60051 (some 64) (by rfl) ?rest60051
    case hy60051 => (intro W' hSw; (try dsimp only at hSw); go_simp; (try with_reducible rfl))
    try simp only [Act.put]
    try simp only [List.setIfInBounds_toArray]
    try simp only [List.set_cons_succ, List.set_cons_zero]
    refine anyK_take2 (i := 17) (v := ?v60052) rfl (by kernel_rfl) (by kernel_rfl) (by kernel_rfl) (by kernel_rfl) (fun _ _ _ h => h) (by rfl) hHeld ?hy60052 (some 66) (by rfl) ?rest60052
    case hy60052 => (intro W' hSw; (try dsimp only at hSw); go_simp; (try with_reducible rfl))
    try simp only [Act.put]
    try simp only [List.setIfInBounds_toArray]
    try simp only [List.set_cons_succ, List.set_cons_zero]
    refine anyK_take2 (i := 18) (v := ?v60053) rfl (by kernel_rfl) (by kernel_rfl) (by kernel_rfl) (by kernel_rfl) (fun _ _ _ h => h) (by rfl) hHeld ?hy60053 (some 67) (by rfl) ?rest60053
    case hy60053 => (intro W' hSw; (try dsimp only at hSw); go_simp; (try with_reducible rfl))
    try simp only [Act.put]
    try simp only [List.setIfInBounds_toArray]
    try simp only [List.set_cons_succ, List.set_cons_zero]
    refine anyK_step (i := 16) (by kernel_rfl) rfl (fun K0 hK => ?_)
    go_simp
    refine (G3.out _ U2.out).mono ?_
    rintro e u3 ⟨rfl, b3⟩
    have U3 := hid (U2.out.trans (b3.mono U2.out.size))
    clear b3
    go_wp2_with fail
    refine hK.out _ _ ?_ (fun hH2 => ?_)
    · exact HK.out _ U3.out
    clear hK K0 hHeld
    have hHeld := hH2
    clear hH2
    try simp only [Act.put]
    try simp only [List.setIfInBounds_toArray]
    try simp only [List.set_cons_succ, List.set_cons_zero]
    refine anyK_step (i := 19) (by kernel_rfl) rfl (fun K0 hK => ?_)
    go_simp
    refine (G4.out _ U3.out).mono ?_
    rintro e u4 ⟨rfl, b4⟩
    have U4 := hid (U3.out.trans (b4.mono U3.out.size))
    clear b4
    go_wp2_with fail
    refine hK.out _ _ ?_ (fun hH2 => ?_)
    · exact HK.out _ U4.out
    clear hK K0 hHeld
    have hHeld := hH2
    clear hH2
    try simp only [Act.put]
    try simp only [List.setIfInBounds_toArray]
    try simp only [List.set_cons_succ, List.set_cons_zero]
    refine anyK_take2 (i := 20) (v := ?v60054) rfl (by kernel_rfl) (by kernel_rfl) (by kernel_rfl) (by kernel_rfl) (fun _ _ _ h => h) (by rfl) hHeld ?hy60054 (some 69) (by rfl) ?rest60054
    case hy60054 => (intro W' hSw; (try dsimp only at hSw); go_simp; (try with_reducible rfl))
    try simp only [Act.put]
    try simp only [List.setIfInBounds_toArray]
    try simp only [List.set_cons_succ, List.set_cons_zero]
    refine anyK_take2 (i := 21) (v := ?v60055) rfl (by kernel_rfl) (by kernel_rfl) (by kernel_rfl) (by kernel_rfl) (fun _ _ _ h => h) (by rfl) hHeld ?hy60055 (some 70) (by rfl) ?rest60055
    case hy60055 => (intro W' hSw; (try dsimp only at hSw); go_simp; (try with_reducible rfl))
    try simp only [Act.put]
    try simp only [List.setIfInBounds_toArray]
    try simp only [List.set_cons_succ, List.set_cons_zero]
    refine anyK_step (i := 22) (by kernel_rfl) rfl (fun K0 hK => ?_)
    go_simp
    refine hK.out _ _ ?_ (fun hH2 => ?_)
    · exact HK.out _ U4.out
    clear hK K0 hHeld
    have hHeld := hH2
    clear hH2
    try simp only [Act.put]
    try simp only [List.setIfInBounds_toArray]
    try simp only [List.set_cons_succ, List.set_cons_zero]
    refine anyK_done (by kernel_rfl) ?_ _
    clear hHeld
    replace HB := hid (HB.out.trans (U4.out.mono HB.out.size))
    go_wp2_with fail
    go_ret
    exact ⟨rfl, HB.out⟩
  replace q2 := Decidable.not_not.1 q2
  rw [decide_eq_true q2] at L32 MS
  refine region_K 99 (fun X => (X.cell? ⟨p, 0, none⟩ = some (.int .i64 K1) ∧ X.cell? ⟨p, 1, none⟩ = some (.int .i64 N1) ∧ X.cell? ⟨p, 2, none⟩ = some (.float .f64 f1) ∧ X.cell? ⟨p, 3, none⟩ = some (.slice a1 m1 c1) ∧ X.cell? ⟨(p + 1), 0, none⟩ = some (.int .i64 K2) ∧ X.cell? ⟨(p + 1), 1, none⟩ = some (.int .i64 N2) ∧ X.cell? ⟨(p + 1), 2, none⟩ = some (.float .f64 f2) ∧ X.cell? ⟨(p + 1), 3, none⟩ = some (.slice a2 m2 c2) ∧ X.cell? ⟨(p + 1 + 1), 0, none⟩ = some (.int .i64 K3) ∧ X.cell? ⟨(p + 1 + 1), 1, none⟩ = some (.int .i64 N3) ∧ X.cell? ⟨(p + 1 + 1), 2, none⟩ = some (.float .f64 f3) ∧ X.cell? ⟨(p + 1 + 1), 3, none⟩ = some (.slice a3 m3 c3))) (by kernel_rfl) ?_ (fun hHeld => ?_)
  · exact HK.out _ bD.out
  refine anyK_take2 (i := 0) (v := ?v60056) rfl (by kernel_rfl) (by kernel_rfl) (by kernel_rfl) (by kernel_rfl) (fun _ _ _ h => h) (by rfl) hHeld ?hy60056 (some 33) (by rfl) ?rest60056
  case hy60056 => (intro W' hSw; (try dsimp only at hSw); go_simp; (try with_reducible rfl))
  try simp only [Act.put]
  try simp only [List.setIfInBounds_toArray]
  try simp only [List.set_cons_succ, List.set_cons_zero]
  refine anyK_take2 (i := 3) (v := ?v60057) rfl (by kernel_rfl) (by kernel_rfl) (by kernel_rfl) (by kernel_rfl) (fun _ _ _ h => h) (by rfl) hHeld ?hy60057 (some 36) (by rfl) ?rest60057
  case hy60057 => (intro W' hSw; (try dsimp only at hSw); go_simp; (try with_reducible rfl))
  try simp only [Act.put]
  try simp only [List.setIfInBounds_toArray]
  try simp only [List.set_cons_succ, List.set_cons_zero]
  refine anyK_step (i := 1) (by kernel_rfl) rfl (fun K0 hK => ?_)
  go_simp
  refine (CB1.out _ bD.out).mono ?_
  rintro e y1 ⟨s1, rfl, o1, b1⟩
  obtain ⟨p1, d1, rfl, rp1, -⟩ := Reads.own o1 BZ1.out
  have RP1 := hid rp1
  have Y1 := hid (bD.out.trans (b1.mono bD.out.size))
  clear rp1 o1 b1
  go_wp2_with fail
  refine hK.out _ _ ?_ (fun hH2 => ?_)
  · exact HK.out _ Y1.out
  clear hK K0 hHeld
  have hHeld := hH2
  clear hH2
  try simp only [Act.put]
  try simp only [List.setIfInBounds_toArray]
  try simp only [List.set_cons_succ, List.set_cons_zero]
  refine anyK_more (fun X => (X.cell? ⟨p, 0, none⟩ = some (.int .i64 K1) ∧ X.cell? ⟨p, 1, none⟩ = some (.int .i64 N1) ∧ X.cell? ⟨p, 2, none⟩ = some (.float .f64 f1) ∧ X.cell? ⟨p, 3, none⟩ = some (.slice a1 m1 c1) ∧ X.cell? ⟨(p + 1), 0, none⟩ = some (.int .i64 K2) ∧ X.cell? ⟨(p + 1), 1, none⟩ = some (.int .i64 N2) ∧ X.cell? ⟨(p + 1), 2, none⟩ = some (.float .f64 f2) ∧ X.cell? ⟨(p + 1), 3, none⟩ = some (.slice a2 m2 c2) ∧ X.cell? ⟨(p + 1 + 1), 0, none⟩ = some (.int .i64 K3) ∧ X.cell? ⟨(p + 1 + 1), 1, none⟩ = some (.int .i64 N3) ∧ X.cell? ⟨(p + 1 + 1), 2, none⟩ = some (.float .f64 f3) ∧ X.cell? ⟨(p + 1 + 1), 3, none⟩ = some (.slice a3 m3 c3)) ∧ (convert 22 9 (.slice p1 Z1.length d1)).run Try.prog X = .ok (.string (str Z1)) X) (fun _ h => h.1) ⟨HK.out _ Y1.out, RP1.out.str d1 22 Try.underlying22 Try.underlying5 Try.underlying9⟩ (fun hH3 => ?_)
  clear hHeld
  have hHeld := hH3
  clear hH3
  refine anyK_take2 (i := 2) (v := ?v60058) rfl (by kernel_rfl) (by kernel_rfl) (by kernel_rfl) (by kernel_rfl) (fun _ _ _ h => h) (by rfl) hHeld ?hy60058 (some 35) (by rfl) ?rest60058
  case hy60058 => (intro W' hSw; (try dsimp only at hSw); go_simp; (try with_reducible rfl))
  try simp only [Act.put]
  try simp only [List.setIfInBounds_toArray]
  try simp only [List.set_cons_succ, List.set_cons_zero]
  refine anyK_step (i := 4) (by kernel_rfl) rfl (fun K0 hK => ?_)
  go_simp
  refine (CB3.out _ Y1.out).mono ?_
  rintro e y2 ⟨s2, rfl, o2, b2⟩
  obtain ⟨p2, d2, rfl, rp2, -⟩ := Reads.own o2 BZ3.out
  replace RP1 := hid (RP1.out.below b2 (Nat.le_refl _))
  have RP2 := hid rp2
  have Y2 := hid (Y1.out.trans (b2.mono Y1.out.size))
  clear rp2 o2 b2
  go_wp2_with fail
  refine hK.out _ _ ?_ (fun hH2 => ?_)
  · exact ⟨HK.out _ Y2.out, RP1.out.str d1 22 Try.underlying22 Try.underlying5 Try.underlying9⟩
  clear hK K0 hHeld
  have hHeld := hH2
  clear hH2
  try simp only [Act.put]
  try simp only [List.setIfInBounds_toArray]
  try simp only [List.set_cons_succ, List.set_cons_zero]
  refine anyK_more (fun X => (X.cell? ⟨p, 0, none⟩ = some (.int .i64 K1) ∧ X.cell? ⟨p, 1, none⟩ = some (.int .i64 N1) ∧ X.cell? ⟨p, 2, none⟩ = some (.float .f64 f1) ∧ X.cell? ⟨p, 3, none⟩ = some (.slice a1 m1 c1) ∧ X.cell? ⟨(p + 1), 0, none⟩ = some (.int .i64 K2) ∧ X.cell? ⟨(p + 1), 1, none⟩ = some (.int .i64 N2) ∧ X.cell? ⟨(p + 1), 2, none⟩ = some (.float .f64 f2) ∧ X.cell? ⟨(p + 1), 3, none⟩ = some (.slice a2 m2 c2) ∧ X.cell? ⟨(p + 1 + 1), 0, none⟩ = some (.int .i64 K3) ∧ X.cell? ⟨(p + 1 + 1), 1, none⟩ = some (.int .i64 N3) ∧ X.cell? ⟨(p + 1 + 1), 2, none⟩ = some (.float .f64 f3) ∧ X.cell? ⟨(p + 1 + 1), 3, none⟩ = some (.slice a3 m3 c3)) ∧ (convert 22 9 (.slice p1 Z1.length d1)).run Try.prog X = .ok (.string (str Z1)) X ∧ (convert 22 9 (.slice p2 Z3.length d2)).run Try.prog X = .ok (.string (str Z3)) X) (fun _ h => ⟨h.1, h.2.1⟩) ⟨HK.out _ Y2.out, RP1.out.str d1 22 Try.underlying22 Try.underlying5 Try.underlying9, RP2.out.str d2 22 Try.underlying22 Try.underlying5 Try.underlying9⟩ (fun hH3 => ?_)
  clear hHeld
  have hHeld := hH3
  clear hH3
  refine anyK_take2 (i := 5) (v := ?v60059) rfl (by kernel_rfl) (by kernel_rfl) (by kernel_rfl) (by kernel_rfl) (fun _ _ _ h => h) (by rfl) hHeld ?hy60059 (some 38) (by rfl) ?rest60059
  case hy60059 => (intro W' hSw; (try dsimp only at hSw); go_simp; (try with_reducible rfl))
  try simp only [Act.put]
  try simp only [List.setIfInBounds_toArray]
  try simp only [List.set_cons_succ, List.set_cons_zero]
  refine anyK_take2 (i := 6) (v := ?v60060) rfl (by kernel_rfl) (by kernel_rfl) (by kernel_rfl) (by kernel_rfl) (fun _ _ _ h => h) (by rfl) hHeld ?hy60060 (some 39) (by rfl) ?rest60060
  case hy60060 => (intro W' hSw; (try dsimp only at hSw); go_simp; (try with_reducible rfl))
  try simp only [Act.put]
  try simp only [List.setIfInBounds_toArray]
  try simp only [List.set_cons_succ, List.set_cons_zero]
  try simp only [L13]
  refine anyK_take2 (i := 7) (v := ?v60061) rfl (by kernel_rfl) (by kernel_rfl) (by kernel_rfl) (by kernel_rfl) (fun _ _ _ h => h) (by rfl) hHeld ?hy60061 (some 40) (by rfl) ?rest60061
  case hy60061 => (intro W' hSw; (try dsimp only at hSw); go_simp; (try with_reducible rfl))
  try simp only [Act.put]
  try simp only [List.setIfInBounds_toArray]
  try simp only [List.set_cons_succ, List.set_cons_zero]
  refine anyK_take2 (i := 8) (v := ?v60062) rfl (by kernel_rfl) (by kernel_rfl) (by kernel_rfl) (by kernel_rfl) (fun _ _ _ h => h) (by rfl) hHeld ?hy60062 (some 41) (by rfl) ?rest60062
  case hy60062 => (intro W' hSw; (try dsimp only at hSw); go_simp; (try with_reducible rfl))
  try simp only [Act.put]
  try simp only [List.setIfInBounds_toArray]
  try simp only [List.set_cons_succ, List.set_cons_zero]
  refine anyK_take2 (i := 11) (v := ?v60063) rfl (by kernel_rfl) (by kernel_rfl) (by kernel_rfl) (by kernel_rfl) (fun _ _ _ h => h) (by rfl) hHeld ?hy60063 (some 44) (by rfl) ?rest60063
  case hy60063 => (intro W' hSw; (try dsimp only at hSw); go_simp; (try with_reducible rfl))
  try simp only [Act.put]
  try simp only [List.setIfInBounds_toArray]
  try simp only [List.set_cons_succ, List.set_cons_zero]
  refine anyK_step (i := 9) (by kernel_rfl) rfl (fun K0 hK => ?_)
  go_simp
  refine (CB3.out _ Y2.out).mono ?_
  rintro e y3 ⟨s3, rfl, o3, b3⟩
  obtain ⟨p3, d3, rfl, rp3, -⟩ := Reads.own o3 BZ3.out
  replace RP1 := hid (RP1.out.below b3 (Nat.le_refl _))
  replace RP2 := hid (RP2.out.below b3 (Nat.le_refl _))
  have RP3 := hid rp3
  have Y3 := hid (Y2.out.trans (b3.mono Y2.out.size))
  clear rp3 o3 b3
  go_wp2_with fail
  refine hK.out _ _ ?_ (fun hH2 => ?_)
  · exact ⟨HK.out _ Y3.out, RP1.out.str d1 22 Try.underlying22 Try.underlying5 Try.underlying9, RP2.out.str d2 22 Try.underlying22 Try.underlying5 Try.underlying9⟩
  clear hK K0 hHeld
  have hHeld := hH2
  clear hH2
  try simp only [Act.put]
  try simp only [List.setIfInBounds_toArray]
  try simp only [List.set_cons_succ, List.set_cons_zero]
  refine anyK_more (fun X => (X.cell? ⟨p, 0, none⟩ = some (.int .i64 K1) ∧ X.cell? ⟨p, 1, none⟩ = some (.int .i64 N1) ∧ X.cell? ⟨p, 2, none⟩ = some (.float .f64 f1) ∧ X.cell? ⟨p, 3, none⟩ = some (.slice a1 m1 c1) ∧ X.cell? ⟨(p + 1), 0, none⟩ = some (.int .i64 K2) ∧ X.cell? ⟨(p + 1), 1, none⟩ = some (.int .i64 N2) ∧ X.cell? ⟨(p + 1), 2, none⟩ = some (.float .f64 f2) ∧ X.cell? ⟨(p + 1), 3, none⟩ = some (.slice a2 m2 c2) ∧ X.cell? ⟨(p + 1 + 1), 0, none⟩ = some (.int .i64 K3) ∧ X.cell? ⟨(p + 1 + 1), 1, none⟩ = some (.int .i64 N3) ∧ X.cell? ⟨(p + 1 + 1), 2, none⟩ = some (.float .f64 f3) ∧ X.cell? ⟨(p + 1 + 1), 3, none⟩ = some (.slice a3 m3 c3)) ∧ (convert 22 9 (.slice p1 Z1.length d1)).run Try.prog X = .ok (.string (str Z1)) X ∧ (convert 22 9 (.slice p2 Z3.length d2)).run Try.prog X = .ok (.string (str Z3)) X ∧ (convert 22 9 (.slice p3 Z3.length d3)).run Try.prog X = .ok (.string (str Z3)) X) (fun _ h => ⟨h.1, h.2.1, h.2.2.1⟩) ⟨HK.out _ Y3.out, RP1.out.str d1 22 Try.underlying22 Try.underlying5 Try.underlying9, RP2.out.str d2 22 Try.underlying22 Try.underlying5 Try.underlying9, RP3.out.str d3 22 Try.underlying22 Try.underlying5 Try.underlying9⟩ (fun hH3 => ?_)
  clear hHeld
  have hHeld := hH3
  clear hH3
  refine anyK_take2 (i := 10) (v := ?v60064) rfl (by kernel_rfl) (by kernel_rfl) (by kernel_rfl) (by kernel_rfl) (fun _ _ _ h => h) (by rfl) hHeld ?hy60064 (some 43) (by rfl) ?rest60064
  case hy60064 => (intro W' hSw; (try dsimp only at hSw); go_simp; (try with_reducible rfl))
  try simp only [Act.put]
  try simp only [List.setIfInBounds_toArray]
  try simp only [List.set_cons_succ, List.set_cons_zero]
  refine anyK_step (i := 12) (by kernel_rfl) rfl (fun K0 hK => ?_)
  go_simp
  refine (CB2.out _ Y3.out).mono ?_
  rintro e y4 ⟨s4, rfl, o4, b4⟩
  obtain ⟨p4, d4, rfl, rp4, -⟩ := Reads.own o4 BZ2.out
  replace RP1 := hid (RP1.out.below b4 (Nat.le_refl _))
  replace RP2 := hid (RP2.out.below b4 (Nat.le_refl _))
  replace RP3 := hid (RP3.out.below b4 (Nat.le_refl _))
  have RP4 := hid rp4
  have Y4 := hid (Y3.out.trans (b4.mono Y3.out.size))
  clear rp4 o4 b4
  go_wp2_with fail
  refine hK.out _ _ ?_ (fun hH2 => ?_)
  · exact ⟨HK.out _ Y4.out, RP1.out.str d1 22 Try.underlying22 Try.underlying5 Try.underlying9, RP2.out.str d2 22 Try.underlying22 Try.underlying5 Try.underlying9, RP3.out.str d3 22 Try.underlying22 Try.underlying5 Try.underlying9⟩
  clear hK K0 hHeld
  have hHeld := hH2
  clear hH2
  try simp only [Act.put]
  try simp only [List.setIfInBounds_toArray]
  try simp only [List.set_cons_succ, List.set_cons_zero]
  refine anyK_more (fun X => (X.cell? ⟨p, 0, none⟩ = some (.int .i64 K1) ∧ X.cell? ⟨p, 1, none⟩ = some (.int .i64 N1) ∧ X.cell? ⟨p, 2, none⟩ = some (.float .f64 f1) ∧ X.cell? ⟨p, 3, none⟩ = some (.slice a1 m1 c1) ∧ X.cell? ⟨(p + 1), 0, none⟩ = some (.int .i64 K2) ∧ X.cell? ⟨(p + 1), 1, none⟩ = some (.int .i64 N2) ∧ X.cell? ⟨(p + 1), 2, none⟩ = some (.float .f64 f2) ∧ X.cell? ⟨(p + 1), 3, none⟩ = some (.slice a2 m2 c2) ∧ X.cell? ⟨(p + 1 + 1), 0, none⟩ = some (.int .i64 K3) ∧ X.cell? ⟨(p + 1 + 1), 1, none⟩ = some (.int .i64 N3) ∧ X.cell? ⟨(p + 1 + 1), 2, none⟩ = some (.float .f64 f3) ∧ X.cell? ⟨(p + 1 + 1), 3, none⟩ = some (.slice a3 m3 c3)) ∧ (convert 22 9 (.slice p1 Z1.length d1)).run Try.prog X = .ok (.string (str Z1)) X ∧ (convert 22 9 (.slice p2 Z3.length d2)).run Try.prog X = .ok (.string (str Z3)) X ∧ (convert 22 9 (.slice p3 Z3.length d3)).run Try.prog X = .ok (.string (str Z3)) X ∧ (convert 22 9 (.slice p4 Z2.length d4)).run Try.prog X = .ok (.string (str Z2)) X) (fun _ h => ⟨h.1, h.2.1, h.2.2.1, h.2.2.2.1⟩) ⟨HK.out _ Y4.out, RP1.out.str d1 22 Try.underlying22 Try.underlying5 Try.underlying9, RP2.out.str d2 22 Try.underlying22 Try.underlying5 Try.underlying9, RP3.out.str d3 22 Try.underlying22 Try.underlying5 Try.underlying9, RP4.out.str d4 22 Try.underlying22 Try.underlying5 Try.underlying9⟩ (fun hH3 => ?_)
  clear hHeld
  have hHeld := hH3
  clear hH3
  refine anyK_take2 (i := 13) (v := ?v60065) rfl (by kernel_rfl) (by kernel_rfl) (by kernel_rfl) (by kernel_rfl) (fun _ _ _ h => h) (by rfl) hHeld ?hy60065 (some 46) (by rfl) ?rest60065
  case hy60065 => (intro W' hSw; (try dsimp only at hSw); go_simp; (try with_reducible rfl))
  try simp only [Act.put]
  try simp only [List.setIfInBounds_toArray]
  try simp only [List.set_cons_succ, List.set_cons_zero]
  refine anyK_take2 (i := 14) (v := ?v60066) rfl (by kernel_rfl) (by kernel_rfl) (by kernel_rfl) (by kernel_rfl) (fun _ _ _ h => h) (by rfl) hHeld ?hy60066 (some 47) (by rfl) ?rest60066
  case hy60066 => (intro W' hSw; (try dsimp only at hSw); go_simp; (try with_reducible rfl))
  try simp only [Act.put]
  try simp only [List.setIfInBounds_toArray]
  try simp only [List.set_cons_succ, List.set_cons_zero]
  try simp only [L32]
  refine anyK_take2 (i := 15) (v := ?v60067) rfl (by kernel_rfl) (by kernel_rfl) (by kernel_rfl) (by kernel_rfl) (fun _ _ _ h => h) (by rfl) hHeld ?hy60067 (some 48) (by rfl) ?rest60067
  case hy60067 => (intro W' hSw; (try dsimp only at hSw); go_simp; (try with_reducible rfl))
  try simp only [Act.put]
  try simp only [List.setIfInBounds_toArray]
  try simp only [List.set_cons_succ, List.set_cons_zero]
  refine anyK_step (i := 16) (by kernel_rfl) rfl (fun K0 hK => ?_)
  go_simp
  refine hK.out _ _ ?_ (fun hH2 => ?_)
  · exact ⟨HK.out _ Y4.out, RP1.out.str d1 22 Try.underlying22 Try.underlying5 Try.underlying9, RP2.out.str d2 22 Try.underlying22 Try.underlying5 Try.underlying9, RP3.out.str d3 22 Try.underlying22 Try.underlying5 Try.underlying9, RP4.out.str d4 22 Try.underlying22 Try.underlying5 Try.underlying9⟩
  clear hK K0 hHeld
  have hHeld := hH2
  clear hH2
  try simp only [Act.put]
  try simp only [List.setIfInBounds_toArray]
  try simp only [List.set_cons_succ, List.set_cons_zero]
  refine anyK_done (by kernel_rfl) ?_ _
  clear hHeld
  clear CB1 CB2 CB3 HK bD BZ1 BZ2 BZ3 L13 L32
  replace HB := hid (HB.out.trans (Y4.out.mono HB.out.size))
  replace I1 := hid (I1.out.below Y4.out (Nat.le_refl _))
  replace I2 := hid (I2.out.below Y4.out (Nat.le_refl _))
  replace I3 := hid (I3.out.below Y4.out (Nat.le_refl _))
  replace T1 := hid ((Y4.out.block _ (Array.getElem?_eq_some_iff.1 T1.out).1).trans T1.out)
  replace T2 := hid ((Y4.out.block _ (Array.getElem?_eq_some_iff.1 T2.out).1).trans T2.out)
  replace T3 := hid ((Y4.out.block _ (Array.getElem?_eq_some_iff.1 T3.out).1).trans T3.out)
  clear RP1 RP2 RP3 RP4 Y1 Y2 Y3 Y4
  go_wp2_with fail
  have HK := hid (show ∀ X, Below y4.heap.size y4 X → (X.cell? ⟨p, 0, none⟩ = some (.int .i64 K1) ∧ X.cell? ⟨p, 1, none⟩ = some (.int .i64 N1) ∧ X.cell? ⟨p, 2, none⟩ = some (.float .f64 f1) ∧ X.cell? ⟨p, 3, none⟩ = some (.slice a1 m1 c1) ∧ X.cell? ⟨(p + 1), 0, none⟩ = some (.int .i64 K2) ∧ X.cell? ⟨(p + 1), 1, none⟩ = some (.int .i64 N2) ∧ X.cell? ⟨(p + 1), 2, none⟩ = some (.float .f64 f2) ∧ X.cell? ⟨(p + 1), 3, none⟩ = some (.slice a2 m2 c2) ∧ X.cell? ⟨(p + 1 + 1), 0, none⟩ = some (.int .i64 K3) ∧ X.cell? ⟨(p + 1 + 1), 1, none⟩ = some (.int .i64 N3) ∧ X.cell? ⟨(p + 1 + 1), 2, none⟩ = some (.float .f64 f3) ∧ X.cell? ⟨(p + 1 + 1), 3, none⟩ = some (.slice a3 m3 c3)) from fun X b => by
    have t1 := ibox_cells ((b.block _ (Array.getElem?_eq_some_iff.1 T1.out).1).trans T1.out)
    have t2 := ibox_cells ((b.block _ (Array.getElem?_eq_some_iff.1 T2.out).1).trans T2.out)
    have t3 := ibox_cells ((b.block _ (Array.getElem?_eq_some_iff.1 T3.out).1).trans T3.out)
    exact ⟨t1.1, t1.2.1, t1.2.2.1, t1.2.2.2, t2.1, t2.2.1, t2.2.2.1, t2.2.2.2, t3.1, t3.2.1, t3.2.2.1, t3.2.2.2⟩)
  have bD := hid ((Still.drew y4).below y4.heap.size)
  have E3 := hid (inSp_self K3 N3 f3 m3 D3 ok3 I3.out.rd.len I3.out.n0 I3.out.n1 I3.out.f0)
  have EE := hid (inSp_one K3 N3 K2 N2 f3 f2 m3 m2 D3 D2 ok3 ok2 I3.out.rd.len I2.out.rd.len I3.out.n0 I3.out.n1 I2.out.n0 I2.out.n1 I3.out.f0 I2.out.f0)
  have G1 := hid (fun (X : World) (b : Below y4.heap.size y4 X) => impl_InSpan K1 N1 K2 N2 K3 N3 f1 f2 f3 c1 c2 c3 I1.out.f0 I2.out.f0 I3.out.f0 (I1.out.rd.below b (Nat.le_refl _)) (I2.out.rd.below b (Nat.le_refl _)) (I3.out.rd.below b (Nat.le_refl _)) (by have := I1.out.m0; omega) (by have := I2.out.m0; omega) (by have := I3.out.m0; omega))
  have G2 := hid (fun (X : World) (b : Below y4.heap.size y4 X) => impl_InSpan K3 N3 K3 N3 K3 N3 f3 f3 f3 c3 c3 c3 I3.out.f0 I3.out.f0 I3.out.f0 (I3.out.rd.below b (Nat.le_refl _)) (I3.out.rd.below b (Nat.le_refl _)) (I3.out.rd.below b (Nat.le_refl _)) (by have := I3.out.m0; omega) (by have := I3.out.m0; omega) (by have := I3.out.m0; omega))
  have G3 := hid (fun (X : World) (b : Below y4.heap.size y4 X) => impl_InSpan K3 N3 K3 N3 K2 N2 f3 f3 f2 c3 c3 c2 I3.out.f0 I3.out.f0 I2.out.f0 (I3.out.rd.below b (Nat.le_refl _)) (I3.out.rd.below b (Nat.le_refl _)) (I2.out.rd.below b (Nat.le_refl _)) (by have := I3.out.m0; omega) (by have := I3.out.m0; omega) (by have := I2.out.m0; omega))
  have G4 := hid (fun (X : World) (b : Below y4.heap.size y4 X) => law_same K3 N3 K2 N2 f3 f2 c3 c2 I3.out.f0 I2.out.f0 (I3.out.rd.below b (Nat.le_refl _)) (I2.out.rd.below b (Nat.le_refl _)))
  rw [MS.out] at G1
  have hv : (true && true) = true := by simp
  rw [hv] at G1
  clear hv
  rw [E3.out] at G2
  rw [EE.out] at G3
  generalize decide (K3 = K2 ∧ N3 = N2 ∧ fbits f3 = fbits f2 ∧ D3 = D2) = E at G3 G4
  clear E3 EE MS
  refine region_K 99 (fun X => X.cell? ⟨p, 0, none⟩ = some (.int .i64 K1) ∧ X.cell? ⟨p, 1, none⟩ = some (.int .i64 N1) ∧ X.cell? ⟨p, 2, none⟩ = some (.float .f64 f1) ∧ X.cell? ⟨p, 3, none⟩ = some (.slice a1 m1 c1) ∧ X.cell? ⟨(p + 1), 0, none⟩ = some (.int .i64 K2) ∧ X.cell? ⟨(p + 1), 1, none⟩ = some (.int .i64 N2) ∧ X.cell? ⟨(p + 1), 2, none⟩ = some (.float .f64 f2) ∧ X.cell? ⟨(p + 1), 3, none⟩ = some (.slice a2 m2 c2) ∧ X.cell? ⟨(p + 1 + 1), 0, none⟩ = some (.int .i64 K3) ∧ X.cell? ⟨(p + 1 + 1), 1, none⟩ = some (.int .i64 N3) ∧ X.cell? ⟨(p + 1 + 1), 2, none⟩ = some (.float .f64 f3) ∧ X.cell? ⟨(p + 1 + 1), 3, none⟩ = some (.slice a3 m3 c3)) (by kernel_rfl) ?_ (fun hHeld => ?_)
  · exact HK.out _ bD.out
  refine anyK_take2 (i := 0) (v := ?v60068) rfl (by kernel_rfl) (by kernel_rfl) (by kernel_rfl) (by kernel_rfl) (fun _ _ _ h => h) (by rfl) hHeld ?hy60068 (some 49) (by rfl) ?rest60068
  case hy60068 => (intro W' hSw; (try dsimp only at hSw); go_simp; (try with_reducible rfl))
  try simp only [Act.put]
  try simp only [List.setIfInBounds_toArray]
  try simp only [List.set_cons_succ, List.set_cons_zero]
  refine anyK_take2 (i := 1) (v := ?v60069) rfl (by kernel_rfl) (by kernel_rfl) (by kernel_rfl) (by kernel_rfl) (fun _ _ _ h => h) (by rfl) hHeld ?hy60069 (some 50) (by rfl) ?rest60069
  case hy60069 => (intro W' hSw; (try dsimp only at hSw); go_simp; (try with_reducible rfl))
  try simp only [Act.put]
  try simp only [List.setIfInBounds_toArray]
  try simp only [List.set_cons_succ, List.set_cons_zero]
  refine anyK_take2 (i := 2) (v := ?v60070) rfl (by kernel_rfl) (by kernel_rfl) (by kernel_rfl) (by kernel_rfl) (fun _ _ _ h => h) (by rfl) hHeld ?hy60070 (some 51) (by rfl) ?rest60070
  case hy60070 => (intro W' hSw; (try dsimp only at hSw); go_simp; (try with_reducible rfl))
  try simp only [Act.put]
  try simp only [List.setIfInBounds_toArray]
  try simp only [List.set_cons_succ, List.set_cons_zero]
  refine anyK_take2 (i := 4) (v := ?v60071) rfl (by kernel_rfl) (by kernel_rfl) (by kernel_rfl) (by kernel_rfl) (fun _ _ _ h => h) (by rfl) hHeld ?hy60071 (some 53) (by rfl) ?rest60071
  case hy60071 => (intro W' hSw; (try dsimp only at hSw); go_simp; (try with_reducible rfl))
  try simp only [Act.put]
  try simp only [List.setIfInBounds_toArray]
  try simp only [List.set_cons_succ, List.set_cons_zero]
  refine anyK_step (i := 3) (by kernel_rfl) rfl (fun K0 hK => ?_)
  go_simp
  refine (G1.out _ bD.out).mono ?_
  rintro e u1 ⟨rfl, b1⟩
  have U1 := hid (bD.out.trans (b1.mono bD.out.size))
  clear b1
  go_wp2_with fail
  refine hK.out _ _ ?_ (fun hH2 => ?_)
  · exact HK.out _ U1.out
  clear hK K0 hHeld
  have hHeld := hH2
  clear hH2
  try simp only [Act.put]
  try simp only [List.setIfInBounds_toArray]
  try simp only [List.set_cons_succ, List.set_cons_zero]
  refine anyK_take2 (i := 5) (v := ?v60072) rfl (by kernel_rfl) (by kernel_rfl) (by kernel_rfl) (by kernel_rfl) (fun _ _ _ h => h) (by rfl) hHeld ?hy60072 (some 54) (by rfl) ?rest60072
  case hy60072 => (intro W' hSw; (try dsimp only at hSw); go_simp; (try with_reducible rfl))
  try simp only [Act.put]
  try simp only [List.setIfInBounds_toArray]
  try simp only [List.set_cons_succ, List.set_cons_zero]
  refine anyK_take2 (i := 6) (v := ?v60073) rfl (by kernel_rfl) (by kernel_rfl) (by kernel_rfl) (by kernel_rfl) (fun _ _ _ h => h) (by rfl) hHeld ?hy60073 (some 55) (by rfl) ?rest60073
  case hy60073 => (intro W' hSw; (try dsimp only at hSw); go_simp; (try with_reducible rfl))
  try simp only [Act.put]
  try simp only [List.setIfInBounds_toArray]
  try simp only [List.set_cons_succ, List.set_cons_zero]
  refine anyK_take2 (i := 7) (v := ?v60074) rfl (by kernel_rfl) (by kernel_rfl) (by kernel_rfl) (by kernel_rfl) (fun _ _ _ h => h) (by rfl) hHeld ?hy60074 (some 56) (by rfl) ?rest60074
  case hy60074 => (intro W' hSw; (try dsimp only at hSw); go_simp; (try with_reducible rfl))
  try simp only [Act.put]
  try simp only [List.setIfInBounds_toArray]
  try simp only [List.set_cons_succ, List.set_cons_zero]
  refine anyK_take2 (i := 8) (v := ?v60075) rfl (by kernel_rfl) (by kernel_rfl) (by kernel_rfl) (by kernel_rfl) (fun _ _ _ h => h) (by rfl) hHeld ?hy60075 (some 57) (by rfl) ?rest60075
  case hy60075 => (intro W' hSw; (try dsimp only at hSw); go_simp; (try with_reducible rfl))
  try simp only [Act.put]
  try simp only [List.setIfInBounds_toArray]
  try simp only [List.set_cons_succ, List.set_cons_zero]
  refine anyK_take2 (i := 9) (v := ?v60076) rfl (by kernel_rfl) (by kernel_rfl) (by kernel_rfl) (by kernel_rfl) (fun _ _ _ h => h) (by rfl) hHeld ?hy60076 (some 58) (by rfl) ?rest60076
  case hy60076 => (intro W' hSw; (try dsimp only at hSw); go_simp; (try with_reducible rfl))
  try simp only [Act.put]
  try simp only [List.setIfInBounds_toArray]
  try simp only [List.set_cons_succ, List.set_cons_zero]
  refine anyK_step (i := 10) (by kernel_rfl) rfl (fun K0 hK => ?_)
  go_simp
  refine (G2.out _ U1.out).mono ?_
  rintro e u2 ⟨rfl, b2⟩
  have U2 := hid (U1.out.trans (b2.mono U1.out.size))
  clear b2
  go_wp2_with fail
  refine hK.out _ _ ?_ (fun hH2 => ?_)
  · exact HK.out _ U2.out
  clear hK K0 hHeld
  have hHeld := hH2
  clear hH2
  try simp only [Act.put]
  try simp only [List.setIfInBounds_toArray]
  try simp only [List.set_cons_succ, List.set_cons_zero]
  refine anyK_take2 (i := 11) (v := ?v60077) rfl (by kernel_rfl) (by kernel_rfl) (by kernel_rfl) (by kernel_rfl) (fun _ _ _ h => h) (by rfl) hHeld ?hy60077 (some 60) (by rfl) ?rest60077
  case hy60077 => (intro W' hSw; (try dsimp only at hSw); go_simp; (try with_reducible rfl))
  try simp only [Act.put]
  try simp only [List.setIfInBounds_toArray]
  try simp only [List.set_cons_succ, List.set_cons_zero]
  refine anyK_take2 (i := 12) (v := ?v60078) rfl (by kernel_rfl) (by kernel_rfl) (by kernel_rfl) (by kernel_rfl) (fun _ _ _ h => h) (by rfl) hHeld ?hy60078 (some 61) (by rfl) ?rest60078
  case hy60078 => (intro W' hSw; (try dsimp only at hSw); go_simp; (try with_reducible rfl))
  try simp only [Act.put]
  try simp only [List.setIfInBounds_toArray]
  try simp only [List.set_cons_succ, List.set_cons_zero]
  refine anyK_take2 (i := 13) (v := ?v60079) rfl (by kernel_rfl) (by kernel_rfl) (by kernel_rfl) (by kernel_rfl) (fun _ _ _ h => h) (by rfl) hHeld ?hy60079 (some 62) (by rfl) ?rest60079
  case hy60079 => (intro W' hSw; (try dsimp only at hSw); go_simp; (try with_reducible rfl))
  try simp only [Act.put]
  try simp only [List.setIfInBounds_toArray]
  try simp only [List.set_cons_succ, List.set_cons_zero]
  refine anyK_take2 (i := 14) (v := ?v60080) rfl (by kernel_rfl) (by kernel_rfl) (by kernel_rfl) (by kernel_rfl) (fun _ _ _ h => h) (by rfl) hHeld ?hy60080 (some 63) (by rfl) ?rest60080
  case hy60080 => (intro W' hSw; (try dsimp only at hSw); go_simp; (try with_reducible rfl))
  try simp only [Act.put]
  try simp only [List.setIfInBounds_toArray]
  try simp only [List.set_cons_succ, List.set_cons_zero]
  refine anyK_take2 (i := 15) (v := ?v60081) rfl (by kernel_rfl) (by kernel_rfl) (by kernel_rfl) (by kernel_rfl) (fun _ _ _ h => h) (by rfl) hHeld ?hy60081 (some 64) (by rfl) ?rest60081
  case hy60081 => (intro W' hSw; (try dsimp only at hSw); go_simp; (try with_reducible rfl))
  try simp only [Act.put]
  try simp only [List.setIfInBounds_toArray]
  try simp only [List.set_cons_succ, List.set_cons_zero]
  refine anyK_take2 (i := 17) (v := ?v60082) rfl (by kernel_rfl) (by kernel_rfl) (by kernel_rfl) (by kernel_rfl) (fun _ _ _ h => h) (by rfl) hHeld ?hy60082 (some 66) (by rfl) ?rest60082
  case hy60082 => (intro W' hSw; (try dsimp only at hSw); go_simp; (try with_reducible rfl))
  try simp only [Act.put]
  try simp only [List.setIfInBounds_toArray]
  try simp only [List.set_cons_succ, List.set_cons_zero]
  refine anyK_take2 (i := 18) (v := ?v60083) rfl (by kernel_rfl) (by kernel_rfl) (by kernel_rfl) (by kernel_rfl) (fun _ _ _ h => h) (by rfl) hHeld ?hy60083 (some 67) (by rfl) ?rest60083
  case hy60083 => (intro W' hSw; (try dsimp only at hSw); go_simp; (try with_reducible rfl))
  try simp only [Act.put]
  try simp only [List.setIfInBounds_toArray]
  try simp only [List.set_cons_succ, List.set_cons_zero]
  refine anyK_step (i := 16) (by kernel_rfl) rfl (fun K0 hK => ?_)
  go_simp
  refine (G3.out _ U2.out).mono ?_
  rintro e u3 ⟨rfl, b3⟩
  have U3 := hid (U2.out.trans (b3.mono U2.out.size))
  clear b3
  go_wp2_with fail
  refine hK.out _ _ ?_ (fun hH2 => ?_)
  · exact HK.out _ U3.out
  clear hK K0 hHeld
  have hHeld := hH2
  clear hH2
  try simp only [Act.put]
  try simp only [List.setIfInBounds_toArray]
  try simp only [List.set_cons_succ, List.set_cons_zero]
  refine anyK_step (i := 19) (by kernel_rfl) rfl (fun K0 hK => ?_)
  go_simp
  refine (G4.out _ U3.out).mono ?_
  rintro e u4 ⟨rfl, b4⟩
  have U4 := hid (U3.out.trans (b4.mono U3.out.size))
  clear b4
  go_wp2_with fail
  refine hK.out _ _ ?_ (fun hH2 => ?_)
  · exact HK.out _ U4.out
  clear hK K0 hHeld
  have hHeld := hH2
  clear hH2
  try simp only [Act.put]
  try simp only [List.setIfInBounds_toArray]
  try simp only [List.set_cons_succ, List.set_cons_zero]
  refine anyK_take2 (i := 20) (v := ?v60084) rfl (by kernel_rfl) (by kernel_rfl) (by kernel_rfl) (by kernel_rfl) (fun _ _ _ h => h) (by rfl) hHeld ?hy60084 (some 69) (by rfl) ?rest60084
  case hy60084 => (intro W' hSw; (try dsimp only at hSw); go_simp; (try with_reducible rfl))
  try simp only [Act.put]
  try simp only [List.setIfInBounds_toArray]
  try simp only [List.set_cons_succ, List.set_cons_zero]
  refine anyK_take2 (i := 21) (v := ?v60085) rfl (by kernel_rfl) (by kernel_rfl) (by kernel_rfl) (by kernel_rfl) (fun _ _ _ h => h) (by rfl) hHeld ?hy60085 (some 70) (by rfl) ?rest60085
  case hy60085 => (intro W' hSw; (try dsimp only at hSw); go_simp; (try with_reducible rfl))
  try simp only [Act.put]
  try simp only [List.setIfInBounds_toArray]
  try simp only [List.set_cons_succ, List.set_cons_zero]
  refine anyK_step (i := 22) (by kernel_rfl) rfl (fun K0 hK => ?_)
  go_simp
  refine hK.out _ _ ?_ (fun hH2 => ?_)
  · exact HK.out _ U4.out
  clear hK K0 hHeld
  have hHeld := hH2
  clear hH2
  try simp only [Act.put]
  try simp only [List.setIfInBounds_toArray]
  try simp only [List.set_cons_succ, List.set_cons_zero]
  refine anyK_done (by kernel_rfl) ?_ _
  clear hHeld
  replace HB := hid (HB.out.trans (U4.out.mono HB.out.size))
  go_wp2_with fail
  go_ret
  exact ⟨rfl, HB.out⟩
end Go.Proofs.Ytgdnjpdheghfoaa
