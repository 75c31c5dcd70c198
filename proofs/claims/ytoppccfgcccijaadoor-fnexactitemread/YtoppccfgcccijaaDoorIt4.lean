/- The contracts of the laws' eqItem, markItem and heldItem. Conditions: texts of at most 2^21 bytes. -/
import Derived.Test.YtoppccfgcccijaaDoorIt3
namespace Go.Proofs.YtoppccfgcccijaaDoor
open Go.RowKit



set_option maxRecDepth 100000 in
set_option maxHeartbeats 1600000 in
/-- Two items that are the same are told so. -/
theorem eqItem (K N : Int) (f f' : Nat) {ad ad' : Option Addr} {n : Nat} (cap cap' : Nat) {zs : List Int} {w : World} (hf : f < 18446744073709551616) (hf' : f' < 18446744073709551616) (hs : Same f f') (h : Reads w ad n zs) (h' : Reads w ad' n zs) (hn : n ≤ 2097152) :
    Calls Tryd.prog 11 #[.agg #[.int .i64 K, .int .i64 N, .float .f64 f, .slice ad n cap], .agg #[.int .i64 K, .int .i64 N, .float .f64 f', .slice ad' n cap']] w fun e w' => e = .returned (.bool true) ∧ Below w.heap.size w w' := by
  have hB := two w (.cells #[.int .i64 K, .int .i64 N, .float .f64 f, .slice ad n cap] 28) (.cells #[.int .i64 K, .int .i64 N, .float .f64 f', .slice ad' n cap'] 28)
  have H1 := hid (h.below hB (Nat.le_refl _))
  have H2 := hid (h'.below hB (Nat.le_refl _))
  have HB := hid hB
  clear hB h h'
  go_enter Tryd.func11, Tryd.ntmps11
  go_wp2_with fail
  refine (sameFloat_walk f f' hf hf' hs _).mono ?_
  rintro e w1 ⟨rfl, hw⟩
  rw [hw]
  clear hw
  go_wp2_with fail
  refine (eqByteS_any cap cap' H1.out H2.out hn).mono ?_
  rintro e w2 ⟨rfl, st⟩
  go_wp2_with fail
  go_ret
  exact ⟨rfl, HB.out.trans (st.below _)⟩
end Go.Proofs.YtoppccfgcccijaaDoor
