/- The contracts of the program's Sees and Visible. Conditions: lists of at most 2^21 numbers in a snapshot, 2^62 statuses. -/
import Derived.Test.YtemhmlikfiknlaaXc9
namespace Go.Proofs.Ytemhmlikfiknlaa
open Go.RowKit Go.Maps
set_option maxRecDepth 100000

theorem map_below {w w' : World} {B b n : Nat} {D : DataW Unit} {k : TypeId} (h : w.ownsMap Try.prog k (unitElem (H := Unit)) b n D) (hb : Below B w w') (hB : w.heap.size ≤ B) : w'.ownsMap Try.prog k (unitElem (H := Unit)) b n D := by
  have hlt := h.lt
  obtain ⟨es, clock, h1, r⟩ := h
  exact ⟨es, clock, (hb.block _ (by omega)).trans h1, r⟩

set_option maxHeartbeats 1600000 in
theorem impl_Sees (S : Int) {ad : Option Addr} {n : Nat} (cap : Nat) {R : List Int} {w : World} (h : ReadsI w ad n R) (hn : n ≤ 2097152) {al : Option Addr} {nl : Nat} (cl : Nat) {l : List Int} (hL : ReadsI w al nl l) (hnl : nl ≤ 4611686018427387904) (x : Int) (hx : -9223372036854775808 ≤ x ∧ x ≤ 9223372036854775807) :
    Calls Try.prog 17 #[.agg #[.int .i64 S, .slice ad n cap], .slice al nl cl, .int .i64 x] w fun e w' => e = .returned (.bool (seesB S R l x)) ∧ Below w.heap.size w w' := by
  have HB := hid (Below.alloc1 w (.cells #[.int .i64 S, .slice ad n cap] 32))
  have HR := hid (h.below HB.out (Nat.le_refl _))
  have HL := hid (hL.below HB.out (Nat.le_refl _))
  have HX := hid hx
  clear h hL hx
  go_enter Try.func17, Try.ntmps17
  go_wp2_with fail
  cases hok : snapOk S R with
  | false =>
    refine (impl_viewOf_no S cap HR.out hn al nl cl hok).mono ?_
    rintro e W ⟨rfl, b⟩
    replace HB := hid (HB.out.trans (b.mono HB.out.size))
    clear b
    go_wp2_with fail
    refine (impl_sees_no x W).mono ?_
    rintro e W2 ⟨rfl, b⟩
    replace HB := hid (HB.out.trans (b.mono HB.out.size))
    clear b
    go_wp2_with fail
    go_ret
    exact ⟨by rw [sees_no hok]; rfl, HB.out⟩
  | true =>
    refine (impl_viewOf_yes S cap HR.out hn al nl cl hok).mono ?_
    rintro e W ⟨q, rfl, hm, b⟩
    have HM := hid hm
    have HO := hid hok
    replace HB := hid (HB.out.trans (b.mono HB.out.size))
    replace HL := hid (HL.out.below b (Nat.le_refl _))
    clear b hm hok
    go_wp2_with fail
    refine (impl_sees_yes HO.out HM.out cl HL.out hnl x HX.out).mono ?_
    rintro e W2 ⟨rfl, b⟩
    replace HB := hid (HB.out.trans (b.mono HB.out.size))
    clear b
    go_wp2_with fail
    go_ret
    exact ⟨rfl, HB.out⟩

set_option maxHeartbeats 1600000 in
theorem impl_Visible (S : Int) {ad : Option Addr} {n : Nat} (cap : Nat) {R : List Int} {w : World} (h : ReadsI w ad n R) (hn : n ≤ 2097152) {al : Option Addr} {nl : Nat} (cl : Nat) {l : List Int} (hL : ReadsI w al nl l) (hnl : nl ≤ 4611686018427387904) (x y : Int) (hx : -9223372036854775808 ≤ x ∧ x ≤ 9223372036854775807) (hy : -9223372036854775808 ≤ y ∧ y ≤ 9223372036854775807) :
    Calls Try.prog 15 #[.agg #[.int .i64 S, .slice ad n cap], .slice al nl cl, .int .i64 x, .int .i64 y] w fun e w' => e = .returned (.bool (visB S R l x y)) ∧ Below w.heap.size w w' := by
  have HB := hid (Below.alloc1 w (.cells #[.int .i64 S, .slice ad n cap] 32))
  have HR := hid (h.below HB.out (Nat.le_refl _))
  have HL := hid (hL.below HB.out (Nat.le_refl _))
  have HX := hid hx
  have HY := hid hy
  clear h hL hx hy
  go_enter Try.func15, Try.ntmps15
  go_wp2_with fail
  cases hok : snapOk S R with
  | false =>
    refine (impl_viewOf_no S cap HR.out hn al nl cl hok).mono ?_
    rintro e W ⟨rfl, b⟩
    replace HB := hid ((HB.out.trans (b.mono HB.out.size)).trans ((Below.alloc1 W (.cells #[.int .i64 0, .map none, .slice none 0 0] 62)).mono (HB.out.trans (b.mono HB.out.size)).size))
    clear b
    go_wp2_with fail
    refine (impl_sees_no x _).mono ?_
    rintro e W2 ⟨rfl, b⟩
    replace HB := hid (HB.out.trans (b.mono HB.out.size))
    clear b
    go_wp2_with fail
    go_ret
    exact ⟨by unfold visB; rw [sees_no hok]; rfl, HB.out⟩
  | true =>
    refine (impl_viewOf_yes S cap HR.out hn al nl cl hok).mono ?_
    rintro e W ⟨q, rfl, hm, b⟩
    have bV := Below.alloc1 W (.cells #[.int .i64 S, .map (some q), .slice al nl cl] 62)
    have HM := hid (hm.alloc (.cells #[.int .i64 S, .map (some q), .slice al nl cl] 62))
    have HO := hid hok
    have b2 := HB.out.trans (b.mono HB.out.size)
    replace HB := hid (b2.trans (bV.mono b2.size))
    replace HL := hid ((HL.out.below b (Nat.le_refl _)).below bV (Nat.le_refl _))
    have RV := hid (heap_alloc_new W (.cells #[.int .i64 S, .map (some q), .slice al nl cl] 62))
    have ZV := hid (alloc_size W (.cells #[.int .i64 S, .map (some q), .slice al nl cl] 62))
    clear b hm hok b2 bV
    go_wp2_with fail
    refine (impl_sees_yes HO.out HM.out cl HL.out hnl x HX.out).mono ?_
    rintro e W2 ⟨rfl, b⟩
    have T2 := hid ((b.block W.heap.size (by rw [ZV.out]; omega)).trans RV.out)
    replace HB := hid (HB.out.trans (b.mono HB.out.size))
    replace HL := hid (HL.out.below b (Nat.le_refl _))
    replace HM := hid (map_below HM.out b (Nat.le_refl _))
    clear b
    have c0 : W2.cell? ⟨W.heap.size, 0, none⟩ = some (.int .i64 S) := by rw [cell_of_row _ _ _ _ _ _ T2.out]; rfl
    have c1 : W2.cell? ⟨W.heap.size, 1, none⟩ = some (.map (some q)) := by rw [cell_of_row _ _ _ _ _ _ T2.out]; rfl
    have c2 : W2.cell? ⟨W.heap.size, 2, none⟩ = some (.slice al nl cl) := by rw [cell_of_row _ _ _ _ _ _ T2.out]; rfl
    cases hA : seesB S R l x with
    | false =>
      go_wp2_with fail
      go_ret
      exact ⟨by unfold visB; rw [hA]; rfl, HB.out⟩
    | true =>
      go_wp2_with fail
      refine (impl_sees_yes HO.out HM.out cl HL.out hnl y HY.out).mono ?_
      rintro e W3 ⟨rfl, b⟩
      replace HB := hid (HB.out.trans (b.mono HB.out.size))
      clear b
      go_wp2_with fail
      go_ret
      exact ⟨by unfold visB; rw [hA]; simp, HB.out⟩
end Go.Proofs.Ytemhmlikfiknlaa
