/- The contract of the program's HeapVersions. Conditions: what the types say; a key's text of at most 2^21 bytes. -/
import Derived.Test.YtebhipicfgnajaaGreatIf10
import Derived.Test.YtebhipicfgnajaaGreatMgb
import Derived.Test.YtebhipicfgnajaaGreatMgc
namespace Go.Proofs.YtebhipicfgnajaaGreat
open Go.RowKit
set_option maxRecDepth 100000

theorem okI_same {K N : Int} {F f n : Nat} (h : Same F f) : okI K N f n = okI K N F n := by
  rcases h with ⟨h1, h2⟩ | ⟨_, rfl⟩
  · have e1 : F ≠ 0 := by rintro rfl; revert h1; decide
    have e2 : f ≠ 0 := by rintro rfl; revert h2; decide
    unfold okI
    simp [e1, e2]
  · rfl
theorem cmpI_same {K N K' N' : Int} {F f n f' n' : Nat} {zs zs' : List Int} (h : Same F f) : cmpI K N f n zs K' N' f' n' zs' = cmpI K N F n zs K' N' f' n' zs' := by
  unfold cmpI
  rw [okI_same h, frank_sm h]
/-- The rows of a key. -/
def verW (K N : Int) (f n : Nat) (zs : List Int) (r : Rw) : Bool := decide (cmpI r.t.K r.t.N r.t.F r.t.Z.length r.t.Z K N f n zs = 0)
def versH (ps : List Pg) (K N : Int) (f n : Nat) (zs : List Int) : List Rw := if okK K N f n = true then (rowsH ps).filter (verW K N f n zs) else []

set_option maxHeartbeats 3200000 in
theorem versions_want (Bk : Nat) (r : Rw) (f1 f2 : Nat) (a5 : Option Addr) (c5 : Nat) (a6 : Option Addr) (c6 : Nat) {W0 : World} (K N : Int) {f : Nat} {ka : Option Addr} {kn : Nat} (kc : Nat) {zs : List Int} {W : World} (hx : RowIs r f1 f2 a5 c5 a6 c6 W0 W) (hk : Reads W ka kn zs) (hf : f < 18446744073709551616) (hn : kn ≤ 2097152) (hB : Box W Bk K N f ka kn kc) :
    Calls Tryz.prog 68 #[.agg #[.int .i64 r.p, .int .i64 r.s, .int .i64 r.t.A, .int .i64 r.t.B, .int .i64 r.t.K, .int .i64 r.t.N, .float .f64 f1, .slice a5 r.t.Z.length c5, .int .i64 r.t.L, .int .i64 r.t.M, .float .f64 f2, .slice a6 r.t.Y.length c6], .pointer (some ⟨Bk, 0, none⟩)] W fun e W' => e = .returned (.bool (verW K N f kn zs r)) ∧ Below W.heap.size W W' := by
  have HA := hid (Below.alloc1 W (.cells #[.int .i64 r.p, .int .i64 r.s, .int .i64 r.t.A, .int .i64 r.t.B, .int .i64 r.t.K, .int .i64 r.t.N, .float .f64 f1, .slice a5 r.t.Z.length c5, .int .i64 r.t.L, .int .i64 r.t.M, .float .f64 f2, .slice a6 r.t.Y.length c6] 42))
  have hR := heap_alloc_new W (.cells #[.int .i64 r.p, .int .i64 r.s, .int .i64 r.t.A, .int .i64 r.t.B, .int .i64 r.t.K, .int .i64 r.t.N, .float .f64 f1, .slice a5 r.t.Z.length c5, .int .i64 r.t.L, .int .i64 r.t.M, .float .f64 f2, .slice a6 r.t.Y.length c6] 42)
  have HK := hid (hk.below HA.out (Nat.le_refl _))
  have hzl : Reads W a5 r.t.Z.length r.t.Z := by
    obtain ⟨ad', c', e, r', _⟩ := Reads.own hx.o1 hx.z
    obtain ⟨rfl, _, _⟩ := Value.slice.inj e
    exact r'
  have HZ := hid (hzl.below HA.out (Nat.le_refl _))
  have hf1 := hx.same.2.2.1
  have hz92 := hx.zl.1
  have HE := hid (show verW K N f kn zs r = decide (cmpI r.t.K r.t.N f1 r.t.Z.length r.t.Z K N f kn zs = 0) by unfold verW; rw [cmpI_same hx.same.1])
  obtain ⟨q0, q1, q2, q3⟩ := hB.below HA.out (World.block_lt_of_cell? W _ hB.c0)
  have k4 : (W.alloc (.cells #[.int .i64 r.p, .int .i64 r.s, .int .i64 r.t.A, .int .i64 r.t.B, .int .i64 r.t.K, .int .i64 r.t.N, .float .f64 f1, .slice a5 r.t.Z.length c5, .int .i64 r.t.L, .int .i64 r.t.M, .float .f64 f2, .slice a6 r.t.Y.length c6] 42)).cell? ⟨W.heap.size, 4, none⟩ = some (.int .i64 r.t.K) := by rw [cell_of_row _ _ _ _ _ _ hR]; rfl
  have k5 : (W.alloc (.cells #[.int .i64 r.p, .int .i64 r.s, .int .i64 r.t.A, .int .i64 r.t.B, .int .i64 r.t.K, .int .i64 r.t.N, .float .f64 f1, .slice a5 r.t.Z.length c5, .int .i64 r.t.L, .int .i64 r.t.M, .float .f64 f2, .slice a6 r.t.Y.length c6] 42)).cell? ⟨W.heap.size, 5, none⟩ = some (.int .i64 r.t.N) := by rw [cell_of_row _ _ _ _ _ _ hR]; rfl
  have k6 : (W.alloc (.cells #[.int .i64 r.p, .int .i64 r.s, .int .i64 r.t.A, .int .i64 r.t.B, .int .i64 r.t.K, .int .i64 r.t.N, .float .f64 f1, .slice a5 r.t.Z.length c5, .int .i64 r.t.L, .int .i64 r.t.M, .float .f64 f2, .slice a6 r.t.Y.length c6] 42)).cell? ⟨W.heap.size, 6, none⟩ = some (.float .f64 f1) := by rw [cell_of_row _ _ _ _ _ _ hR]; rfl
  have k7 : (W.alloc (.cells #[.int .i64 r.p, .int .i64 r.s, .int .i64 r.t.A, .int .i64 r.t.B, .int .i64 r.t.K, .int .i64 r.t.N, .float .f64 f1, .slice a5 r.t.Z.length c5, .int .i64 r.t.L, .int .i64 r.t.M, .float .f64 f2, .slice a6 r.t.Y.length c6] 42)).cell? ⟨W.heap.size, 7, none⟩ = some (.slice a5 r.t.Z.length c5) := by rw [cell_of_row _ _ _ _ _ _ hR]; rfl
  have HC := hid (impl_ItemCompare r.t.K r.t.N K N f1 f c5 kc hf1 hf HZ.out HK.out (by omega) hn)
  clear hR hk hx hzl hB
  go_enter Tryz.func68, Tryz.ntmps68
  go_wp2_with fail
  refine HC.out.mono ?_
  rintro e w1 ⟨rfl, b⟩
  have HB2 := hid (HA.out.trans (b.mono HA.out.size))
  clear b HC k4 k5 k6 k7 q0 q1 q2 q3
  generalize cmpI r.t.K r.t.N f1 r.t.Z.length r.t.Z K N f kn zs = cc at *
  go_wp2_with fail
  go_ret
  rw [HE.out]
  exact ⟨rfl, HB2.out⟩

set_option maxHeartbeats 3200000 in
theorem impl_HeapVersions {ad : Option Addr} {n : Nat} (cap : Nat) {ps : List Pg} (K N : Int) {f : Nat} {ka : Option Addr} {kn : Nat} (kc : Nat) {zs : List Int} {w : World} (h : ReadsG w ad ps) (hl : ps.length = n) (hk : Reads w ka kn zs) (hf : f < 18446744073709551616) (hn : kn ≤ 2097152) :
    Calls Tryz.prog 14 #[.agg #[.slice ad n cap], .agg #[.int .i64 K, .int .i64 N, .float .f64 f, .slice ka kn kc]] w fun e w' => ∃ v, e = .returned v ∧ OwnRw w' w.heap.size w'.heap.size v (versH ps K N f kn zs) ∧ Below w.heap.size w w' := by
  have hst1 := fun w a m => run_store Tryz.prog w a (.float .f64 f) m rfl
  obtain ⟨R1, R2, z⟩ := two_rows w (.cells #[.slice ad n cap] 26) (.cells #[.int .i64 K, .int .i64 N, .float .f64 f, .slice ka kn kc] 29)
  have hBl := two w (.cells #[.slice ad n cap] 26) (.cells #[.int .i64 K, .int .i64 N, .float .f64 f, .slice ka kn kc] 29)
  have HB := hid hBl
  have HR := hid (h.below hBl (Nat.le_refl _))
  have HK := hid (hk.below hBl (Nat.le_refl _))
  have Q1 := hid R1
  have Q2 := hid R2
  have ZW := hid z
  have c0 : ((w.alloc (.cells #[.slice ad n cap] 26)).alloc (.cells #[.int .i64 K, .int .i64 N, .float .f64 f, .slice ka kn kc] 29)).cell? ⟨w.heap.size, 0, none⟩ = some (.slice ad n cap) := by rw [cell_of_row _ _ _ _ _ _ R1]; rfl
  clear h hk R1 R2 z hBl
  go_enter Tryz.func14, Tryz.ntmps14
  go_wp2_with fail
  generalize (w.alloc (.cells #[.slice ad n cap] 26)).alloc (.cells #[.int .i64 K, .int .i64 N, .float .f64 f, .slice ka kn kc] 29) = w1 at *
  refine (impl_HeapOk cap HR.out hl).mono ?_
  rintro e W ⟨rfl, b⟩
  have S1 := hid ((b.block w.heap.size (by have := ZW.out; omega)).trans Q1.out)
  have S2 := hid ((b.block (w.heap.size + 1) (by have := ZW.out; omega)).trans Q2.out)
  have d0 : W.cell? ⟨w.heap.size, 0, none⟩ = some (.slice ad n cap) := by rw [cell_of_row _ _ _ _ _ _ S1.out]; rfl
  replace HR := hid (HR.out.below b (Nat.le_refl _))
  replace HK := hid (HK.out.below b (Nat.le_refl _))
  replace HB := hid (HB.out.trans (b.mono HB.out.size))
  clear b c0 Q1 Q2 ZW
  cases hok : okH ps with
  | false =>
    clear d0
    go_wp2_with fail
    go_ret
    have e0 : versH ps K N f kn zs = [] := by unfold versH rowsH; rw [hok]; simp
    rw [e0]
    exact ⟨_, rfl, OwnRw.nil _ _ _, HB.out⟩
  | true =>
    have HO := hid hok
    clear hok
    have q0 : W.cell? ⟨w.heap.size + 1, 0, none⟩ = some (.int .i64 K) := by rw [cell_of_row _ _ _ _ _ _ S2.out]; rfl
    have q1 : W.cell? ⟨w.heap.size + 1, 1, none⟩ = some (.int .i64 N) := by rw [cell_of_row _ _ _ _ _ _ S2.out]; rfl
    have q2 : W.cell? ⟨w.heap.size + 1, 2, none⟩ = some (.float .f64 f) := by rw [cell_of_row _ _ _ _ _ _ S2.out]; rfl
    have q3 : W.cell? ⟨w.heap.size + 1, 3, none⟩ = some (.slice ka kn kc) := by rw [cell_of_row _ _ _ _ _ _ S2.out]; rfl
    have HC := hid (impl_KeyOk K N f ka kn kc hf hn W)
    go_wp2_with fail
    refine HC.out.mono ?_
    rintro e W2 ⟨rfl, b⟩
    have T1 := (b.block w.heap.size (Array.getElem?_eq_some_iff.1 S1.out).1).trans S1.out
    have T2 := (b.block (w.heap.size + 1) (Array.getElem?_eq_some_iff.1 S2.out).1).trans S2.out
    have hc0 : W2.cell? ⟨w.heap.size, 0, none⟩ = some (.slice ad n cap) := by rw [cell_of_row _ _ _ _ _ _ T1]; rfl
    have HBk := hid (show Box W2 (w.heap.size + 1) K N f ka kn kc from ⟨by rw [cell_of_row _ _ _ _ _ _ T2]; rfl, by rw [cell_of_row _ _ _ _ _ _ T2]; rfl, by rw [cell_of_row _ _ _ _ _ _ T2]; rfl, by rw [cell_of_row _ _ _ _ _ _ T2]; rfl⟩)
    replace HR := hid (HR.out.below b (Nat.le_refl _))
    replace HK := hid (HK.out.below b (Nat.le_refl _))
    replace HB := hid (HB.out.trans (b.mono HB.out.size))
    clear b T1 T2 q0 q1 q2 q3 S1 S2 HC d0
    cases hkk : okK K N f kn with
    | false =>
      clear hc0
      go_wp2_with fail
      go_ret
      have e0 : versH ps K N f kn zs = [] := by unfold versH; rw [hkk]; rfl
      rw [e0]
      exact ⟨_, rfl, OwnRw.nil _ _ _, HB.out⟩
    | true =>
      have HE := hid (show versH ps K N f kn zs = (rowsG 0 ps).filter (verW K N f kn zs) by unfold versH rowsH; rw [if_pos hkk, if_pos HO.out])
      have HC := hid (rowsThat_versions (w.heap.size + 1) cap HR.out hl HO.out (verW K N f kn zs) (fun r f1 f2 a5 c5 a6 c6 W0 W3 b2 hx =>
        versions_want (w.heap.size + 1) r f1 f2 a5 c5 a6 c6 K N kc hx (HK.out.below b2 (Nat.le_refl _)) hf hn (HBk.out.below b2 (World.block_lt_of_cell? W2 _ HBk.out.c0))))
      clear hkk
      go_wp2_with fail
      refine HC.out.mono ?_
      rintro e w2 ⟨v, rfl, ow, b⟩
      obtain ⟨a, c, rfl⟩ := ow.slice
      have HOW := hid (ow.mono (lo' := w.heap.size) HB.out.size (Nat.le_refl _))
      have HB2 := hid (HB.out.trans (b.mono HB.out.size))
      clear ow b HC
      go_wp2_with fail
      go_ret
      rw [HE.out]
      exact ⟨_, rfl, HOW.out, HB2.out⟩
end Go.Proofs.YtebhipicfgnajaaGreat
