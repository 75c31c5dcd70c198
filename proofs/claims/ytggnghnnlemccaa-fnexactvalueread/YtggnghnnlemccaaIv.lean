/- The contract of the specification's ValueBytes. Conditions: texts of at most 2^21 bytes. -/
import Derived.Test.YtggnghnnlemccaaIt9
namespace Go.Proofs.Ytggnghnnlemccaa
open Go.RowKit

/-- A value's bytes. -/
def valB (K N : Int) (f n : Nat) (zs : List Int) : List Int := if okI K N f n = true ∧ K ≠ 0 then bytesI K N (fbits f) zs else []

set_option maxRecDepth 100000 in
set_option maxHeartbeats 3200000 in
theorem spec_ValueBytes (K N : Int) (f : Nat) {ad : Option Addr} {n : Nat} (cap : Nat) (hnil : ad = none → cap = 0) {zs : List Int} {w : World} (h : Reads w ad n zs) (hn : n ≤ 2097152) (hN0 : -9223372036854775808 ≤ N) (hN1 : N ≤ 9223372036854775807) (hf : f < 18446744073709551616) :
    Calls Try.prog 38 #[.agg #[.int .i64 K, .int .i64 N, .float .f64 f, .slice ad n cap]] w fun e w' => ∃ v, e = .returned v ∧ w'.ownsRow w.heap.size 5 1 v (valB K N f n zs).length (bys (valB K N f n zs)) ∧ Below w.heap.size w w' := by
  have hA : Below w.heap.size w (w.alloc (.cells #[.int .i64 K, .int .i64 N, .float .f64 f, .slice ad n cap] 26)) := (Below.refl _ _).alloc (Nat.le_refl _) _
  have hX := Box.new w K N f ad n cap 26
  have h0 := h.below hA (Nat.le_refl _)
  have z1 := alloc_size w (.cells #[.int .i64 K, .int .i64 N, .float .f64 f, .slice ad n cap] 26)
  have hI := spec_ItemOk K N f ad n cap hf hn
  by_cases hok : okI K N f n = true ∧ K ≠ 0
  · have e : valB K N f n zs = bytesI K N (fbits f) zs := by rw [valB, if_pos hok]
    rw [e]
    obtain ⟨hok1, hok2⟩ := hok
    rw [hok1] at hI
    have q : (K == 0) = false := beq_eq_false_iff_ne.2 hok2
    have hK : K = 1 ∨ K = 2 ∨ K = 3 := by
      simp only [okI, decide_eq_true_eq] at hok1
      omega
    clear e
    go_enter Try.func38, Try.ntmps38
    go_wp2_with fail
    refine (hI _).mono ?_
    rintro e w1 ⟨rfl, b1⟩
    have B1 := hA.trans (b1.mono hA.size)
    obtain ⟨c0, c1, c2, c3⟩ := hX.below b1 (by omega)
    have h1 := hid (h0.below b1 (Nat.le_refl _))
    have hr := hid (spec_FloatBits f hf)
    have hfl := fbits_lt f hf
    have HB := hid (fun (W : World) (hW : Reads W ad n zs) => spec_l3bytes K N f (fbits f) cap hnil hW hn hN0 hN1 hfl hK)
    have HB1 := hid B1
    have X1 := hid (hX.below b1 (by omega))
    have ZZ := hid (show w.heap.size < w1.heap.size by have := b1.size; omega)
    clear hA b1 B1 hX h0 z1 hI h hK hok1 hok2 hnil
    go_wp2_with fail
    go_region_held3 (fun W => W.cell? ⟨w.heap.size, 0, none⟩ = some (.int .i64 K) ∧ W.cell? ⟨w.heap.size, 1, none⟩ = some (.int .i64 N) ∧ W.cell? ⟨w.heap.size, 2, none⟩ = some (.float .f64 f) ∧ W.cell? ⟨w.heap.size, 3, none⟩ = some (.slice ad n cap)) (first | exact ⟨k0, k1, k2, k3⟩ | exact ⟨by simpa using c0, by simpa using c1, by simpa using c2, by simpa using c3⟩) (first
      | (go_at_call 48; refine (hr.out _).mono ?_; rintro e w2 ⟨rfl, rfl⟩)
      | (go_at_call 49; refine (HB.out _ (h1.out.below ((Still.drewN w1 _).below _) (Nat.le_refl _))).mono ?_; rintro e w3 ⟨v, rfl, o3, b3⟩; obtain ⟨k0, k1, k2, k3⟩ := (X1.out.below ((Still.drewN w1 _).below w1.heap.size) ZZ.out).below b3 ZZ.out))
    have B3 : Below w.heap.size w w3 := (HB1.out.trans ((Still.drewN w1 _).below _)).trans (b3.mono (by have := ZZ.out; show w.heap.size ≤ w1.heap.size; omega))
    have O3 := hid (owns_base (base' := w.heap.size) o3 (by have := ZZ.out; show w.heap.size ≤ w1.heap.size; omega))
    clear o3 b3
    go_wp2_with fail
    go_ret
    exact ⟨_, rfl, O3.out, B3⟩
  · have e : valB K N f n zs = [] := by rw [valB, if_neg hok]
    rw [e]
    clear e
    by_cases hok1 : okI K N f n = true
    · rw [hok1] at hI
      have q : (K == 0) = true := beq_iff_eq.2 (Classical.byContradiction fun e => hok ⟨hok1, e⟩)
      go_enter Try.func38, Try.ntmps38
      go_wp2_with fail
      refine (hI _).mono ?_
      rintro e w1 ⟨rfl, b1⟩
      have B1 := hA.trans (b1.mono hA.size)
      obtain ⟨c0, c1, c2, c3⟩ := hX.below b1 (by omega)
      clear hA b1 hX h0 z1
      go_wp2_with fail
      go_ret
      exact ⟨_, rfl, World.ownsRow_nil _ _ _ _, B1⟩
    · have hok' : okI K N f n = false := by simpa using hok1
      rw [hok'] at hI
      go_enter Try.func38, Try.ntmps38
      go_wp2_with fail
      refine (hI _).mono ?_
      rintro e w1 ⟨rfl, b1⟩
      have B1 := hA.trans (b1.mono hA.size)
      clear hA b1 hX h0 z1
      go_wp2_with fail
      go_ret
      exact ⟨_, rfl, World.ownsRow_nil _ _ _ _, B1⟩
end Go.Proofs.Ytggnghnnlemccaa
