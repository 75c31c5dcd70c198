/- The contracts of the laws' szItem, toItem, eqItem, and of the specification's KeyOk. Conditions: texts of at most 2^21 bytes where memory is made. -/
import Derived.Test.YtnjofaiekofamaaIt1
namespace Go.Proofs.Ytnjofaiekofamaa
open Go.RowKit

/-- The cells of an item. -/
def itemC (K N : Int) (f : Nat) (ad : Option Addr) (n cap : Nat) : Array Value := #[.int .i64 K, .int .i64 N, .float .f64 f, .slice ad n cap]
/-- An item in a block of its own. -/
structure Box (w : World) (g : Nat) (K N : Int) (f : Nat) (ad : Option Addr) (n cap : Nat) : Prop where
  c0 : w.cell? ⟨g, 0, none⟩ = some (.int .i64 K)
  c1 : w.cell? ⟨g, 1, none⟩ = some (.int .i64 N)
  c2 : w.cell? ⟨g, 2, none⟩ = some (.float .f64 f)
  c3 : w.cell? ⟨g, 3, none⟩ = some (.slice ad n cap)
theorem Box.new (w : World) (K N : Int) (f : Nat) (ad : Option Addr) (n cap : Nat) (t : TypeId) : Box (w.alloc (.cells #[.int .i64 K, .int .i64 N, .float .f64 f, .slice ad n cap] t)) w.heap.size K N f ad n cap := by
  have h := heap_alloc_new w (.cells #[.int .i64 K, .int .i64 N, .float .f64 f, .slice ad n cap] t)
  refine ⟨?_, ?_, ?_, ?_⟩ <;> (rw [cell_of_row _ _ _ _ _ _ h]; rfl)
theorem Box.below {w w' : World} {g : Nat} {K N : Int} {f : Nat} {ad : Option Addr} {n cap : Nat} (b : Box w g K N f ad n cap) {B : Nat} (h : Below B w w') (hB : g < B) : Box w' g K N f ad n cap :=
  ⟨(h.cell (p := ⟨g, 0, none⟩) hB).trans b.c0, (h.cell (p := ⟨g, 1, none⟩) hB).trans b.c1, (h.cell (p := ⟨g, 2, none⟩) hB).trans b.c2, (h.cell (p := ⟨g, 3, none⟩) hB).trans b.c3⟩

theorem szByteS (ad : Option Addr) (n cap : Nat) (left : Int) (hn : n ≤ 9223372036854775807) (h0 : 0 ≤ left) (h1 : left ≤ 1048576) (w : World) :
    Calls Try.prog 74 #[.slice ad n cap, .int .i64 left] w fun e w' => e = .returned (.int .i64 (if left < n then -1 else left - n)) ∧ w' = w := by
  have a1 : (0 : Int) ≤ (n : Int) := by omega
  have a2 : (n : Int) ≤ 9223372036854775807 := by omega
  by_cases h : left < n
  · rw [if_pos h]
    have q : left - (n : Int) < 0 := by omega
    go_enter Try.func74, Try.ntmps74
    go_wp2
    go_ret
    exact ⟨rfl, rfl⟩
  · rw [if_neg h]
    have q : ¬ left - (n : Int) < 0 := by omega
    go_enter Try.func74, Try.ntmps74
    go_wp2
    go_ret
    exact ⟨rfl, rfl⟩

theorem szItem (K N : Int) (f : Nat) (ad : Option Addr) (n cap : Nat) (left : Int) (hn : n ≤ 9223372036854775807) (h0 : 0 ≤ left) (h1 : left ≤ 1048576) (w : World) :
    Calls Try.prog 38 #[.agg #[.int .i64 K, .int .i64 N, .float .f64 f, .slice ad n cap], .int .i64 left] w fun e w' => e = .returned (.int .i64 (if left < n then -1 else left - n)) ∧ Below w.heap.size w w' := by
  have HA := hid (show Below w.heap.size w (w.alloc (.cells #[.int .i64 K, .int .i64 N, .float .f64 f, .slice ad n cap] 58)) from (Below.refl _ _).alloc (Nat.le_refl _) _)
  by_cases h : left < n
  · rw [if_pos h]
    go_enter Try.func38, Try.ntmps38
    go_wp2_with fail
    refine (szByteS ad n cap left hn h0 h1 _).mono ?_
    rintro e w1 ⟨rfl, rfl⟩
    rw [if_pos h]
    go_wp2_with fail
    go_ret
    exact ⟨rfl, HA.out⟩
  · rw [if_neg h]
    have q : ¬ left - (n : Int) < 0 := by omega
    have hz := szByteS ad n cap left hn h0 h1
    rw [if_neg h] at hz
    have HZ := hid hz
    clear hz
    go_enter Try.func38, Try.ntmps38
    go_wp2_with fail
    refine (HZ.out _).mono ?_
    rintro e w1 ⟨rfl, rfl⟩
    go_wp2_with fail
    go_ret
    exact ⟨rfl, HA.out⟩

set_option maxRecDepth 100000 in
set_option maxHeartbeats 1600000 in
theorem spec_KeyOk (K N : Int) (f : Nat) (ad : Option Addr) (n cap : Nat) (hf : f < 18446744073709551616) (hn : n ≤ 2097152) (w : World) :
    Calls Try.prog 62 #[.agg #[.int .i64 K, .int .i64 N, .float .f64 f, .slice ad n cap]] w fun e w' => e = .returned (.bool (okK K N f n)) ∧ Below w.heap.size w w' := by
  have hI := spec_ItemOk K N f ad n cap hf hn
  by_cases hok : okI K N f n = true
  · rw [hok] at hI
    by_cases hK : K = 0
    · rw [show okK K N f n = false by rw [okK, decide_eq_false (by omega), Bool.and_false]]
      have q : (K != 0) = false := by simp [hK]
      clear hK hok
      have hA : Below w.heap.size w (w.alloc (.cells #[.int .i64 K, .int .i64 N, .float .f64 f, .slice ad n cap] 32)) := (Below.refl _ _).alloc (Nat.le_refl _) _
      have hB := Box.new w K N f ad n cap 32
      go_enter Try.func62, Try.ntmps62
      go_wp2_with fail
      refine (hI _).mono ?_
      rintro e w1 ⟨rfl, b1⟩
      obtain ⟨c0, c1, c2, c3⟩ := hB.below b1 (by simp)
      have HA := hid (hA.trans (b1.mono hA.size))
      clear hA hB b1
      go_wp2_with fail
      go_ret
      exact ⟨rfl, HA.out⟩
    have q : (K != 0) = true := by simp [hK]
    by_cases h0 : f = 0
    · subst h0
      rw [show okK K N 0 n = true by rw [okK, hok, decide_eq_true (by omega)]; rfl]
      have o : FloatKind.f64.format.order 0 0 = some .eq := by decide
      have hz : fbits 0 = 0 := by decide
      clear hK hok
      have hA : Below w.heap.size w (w.alloc (.cells #[.int .i64 K, .int .i64 N, .float .f64 0, .slice ad n cap] 32)) := (Below.refl _ _).alloc (Nat.le_refl _) _
      have hB := Box.new w K N 0 ad n cap 32
      go_enter Try.func62, Try.ntmps62
      go_wp2_with fail
      refine (hI _).mono ?_
      rintro e w1 ⟨rfl, b1⟩
      obtain ⟨c0, c1, c2, c3⟩ := hB.below b1 (by simp)
      have HA := hid (hA.trans (b1.mono hA.size))
      clear hA hB b1
      go_wp2_with fail
      refine (spec_FloatBits 0 hf _).mono ?_
      rintro e w2 ⟨rfl, rfl⟩
      rw [hz]
      go_wp2_with fail
      go_ret
      exact ⟨rfl, HA.out⟩
    by_cases h1 : f = 9223372036854775808
    · subst h1
      rw [show okK K N 9223372036854775808 n = false by rw [okK, decide_eq_false (by omega), Bool.and_false]]
      have o : FloatKind.f64.format.order 9223372036854775808 0 = some .eq := by decide
      have hz : fbits 9223372036854775808 = 9223372036854775808 := by decide
      clear hK hok
      have hA : Below w.heap.size w (w.alloc (.cells #[.int .i64 K, .int .i64 N, .float .f64 9223372036854775808, .slice ad n cap] 32)) := (Below.refl _ _).alloc (Nat.le_refl _) _
      have hB := Box.new w K N 9223372036854775808 ad n cap 32
      go_enter Try.func62, Try.ntmps62
      go_wp2_with fail
      refine (hI _).mono ?_
      rintro e w1 ⟨rfl, b1⟩
      obtain ⟨c0, c1, c2, c3⟩ := hB.below b1 (by simp)
      have HA := hid (hA.trans (b1.mono hA.size))
      clear hA hB b1
      go_wp2_with fail
      refine (spec_FloatBits 9223372036854775808 hf _).mono ?_
      rintro e w2 ⟨rfl, rfl⟩
      rw [hz]
      go_wp2_with fail
      go_ret
      exact ⟨rfl, HA.out⟩
    rw [show okK K N f n = true by rw [okK, hok, decide_eq_true (by omega)]; rfl]
    have o : FloatKind.f64.format.order f 0 = some .lt ∨ FloatKind.f64.format.order f 0 = some .gt ∨ FloatKind.f64.format.order f 0 = none := by
      by_cases hN : isN f = true
      · exact .inr (.inr (order_l f 0 hf hN))
      · have hN' : isN f = false := by simpa using hN
        have hm := (isN_not f).1 hN'
        by_cases hp : f < 9223372036854775808
        · exact .inr (.inl (order_gt f 0 hf (by omega) hN' isN_zero (by rw [kx_zero, kx, if_pos hp]; omega)))
        · exact .inl (order_lt f 0 hf (by omega) hN' isN_zero (by rw [kx_zero, kx, if_neg hp]; omega))
    clear hK hok h0 h1
    rcases o with o | o | o
    all_goals
      have hA : Below w.heap.size w (w.alloc (.cells #[.int .i64 K, .int .i64 N, .float .f64 f, .slice ad n cap] 32)) := (Below.refl _ _).alloc (Nat.le_refl _) _
      have hB := Box.new w K N f ad n cap 32
      go_enter Try.func62, Try.ntmps62
      go_wp2_with fail
      refine (hI _).mono ?_
      rintro e w1 ⟨rfl, b1⟩
      obtain ⟨c0, c1, c2, c3⟩ := hB.below b1 (by simp)
      have HA := hid (hA.trans (b1.mono hA.size))
      clear hA hB b1
      go_wp2_with fail
      go_ret
      exact ⟨rfl, HA.out⟩
  · have hok' : okI K N f n = false := by simpa using hok
    rw [hok'] at hI
    rw [show okK K N f n = false by rw [okK, hok']; rfl]
    clear hok hok'
    have hA : Below w.heap.size w (w.alloc (.cells #[.int .i64 K, .int .i64 N, .float .f64 f, .slice ad n cap] 32)) := (Below.refl _ _).alloc (Nat.le_refl _) _
    have hB := Box.new w K N f ad n cap 32
    go_enter Try.func62, Try.ntmps62
    go_wp2_with fail
    refine (hI _).mono ?_
    rintro e w1 ⟨rfl, b1⟩
    obtain ⟨c0, c1, c2, c3⟩ := hB.below b1 (by simp)
    have HA := hid (hA.trans (b1.mono hA.size))
    clear hA hB b1
    go_wp2_with fail
    go_ret
    exact ⟨rfl, HA.out⟩
end Go.Proofs.Ytnjofaiekofamaa
