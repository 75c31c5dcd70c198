/- The contract of the specification's KeyBytes. Conditions: texts of at most 2^21 bytes. -/
import Derived.Test.YtioefplkadpfnaaIt8
import Derived.Deep.RegionHeld3
namespace Go.Proofs.Ytioefplkadpfnaa
open Go.RowKit

/-- A key's bytes. -/
def keyB (K N : Int) (f n : Nat) (zs : List Int) : List Int := if okK K N f n = true then bytesI K N (frank f) zs else []

set_option maxRecDepth 100000 in
set_option maxHeartbeats 3200000 in
theorem spec_l3bytes (K N : Int) (f B : Nat) {ad : Option Addr} {n : Nat} (cap : Nat) (hnil : ad = none → cap = 0) {zs : List Int} {w : World} (h : Reads w ad n zs) (hn : n ≤ 2097152) (hN0 : -9223372036854775808 ≤ N) (hN1 : N ≤ 9223372036854775807) (hB : B < 18446744073709551616) (hK : K = 1 ∨ K = 2 ∨ K = 3) :
    Calls Try.prog 92 #[.agg #[.int .i64 K, .int .i64 N, .float .f64 f, .slice ad n cap], .int .u64 B] w fun e w' => ∃ v, e = .returned v ∧ w'.ownsRow w.heap.size 5 1 v (bytesI K N B zs).length (bys (bytesI K N B zs)) ∧ Below w.heap.size w w' := by
  rcases hK with rfl | rfl | rfl
  · have e : bytesI 1 N B zs = [1] ++ hi8 (N + 9223372036854775808).toNat 8 := by rw [bytesI, if_pos rfl]
    have hl : ([1] ++ hi8 (N + 9223372036854775808).toNat 8 : List Int).length = 9 := by simp [hi8_length]
    rw [e, hl]
    exact spec_l3bytes_int N hN0 hN1 f ad n cap B w
  · have e : bytesI 2 N B zs = [2] ++ hi8 B 8 := by rw [bytesI, if_neg (by decide), if_pos rfl]
    have hl : ([2] ++ hi8 B 8 : List Int).length = 9 := by simp [hi8_length]
    rw [e, hl]
    exact spec_l3bytes_float N f ad n cap B hB w
  · have e : bytesI 3 N B zs = [3] ++ zs := by rw [bytesI, if_neg (by decide), if_neg (by decide)]
    have hl : ([3] ++ zs : List Int).length = 1 + n := by simp [h.len]; omega
    rw [e, hl]
    exact spec_l3bytes_text N f cap B hnil h hn

set_option maxRecDepth 100000 in
set_option maxHeartbeats 3200000 in
theorem spec_KeyBytes (K N : Int) (f : Nat) {ad : Option Addr} {n : Nat} (cap : Nat) (hnil : ad = none → cap = 0) {zs : List Int} {w : World} (h : Reads w ad n zs) (hn : n ≤ 2097152) (hN0 : -9223372036854775808 ≤ N) (hN1 : N ≤ 9223372036854775807) (hf : f < 18446744073709551616) :
    Calls Try.prog 76 #[.agg #[.int .i64 K, .int .i64 N, .float .f64 f, .slice ad n cap]] w fun e w' => ∃ v, e = .returned v ∧ w'.ownsRow w.heap.size 5 1 v (keyB K N f n zs).length (bys (keyB K N f n zs)) ∧ Below w.heap.size w w' := by
  have hA : Below w.heap.size w (w.alloc (.cells #[.int .i64 K, .int .i64 N, .float .f64 f, .slice ad n cap] 63)) := (Below.refl _ _).alloc (Nat.le_refl _) _
  have hX := Box.new w K N f ad n cap 63
  have h0 := h.below hA (Nat.le_refl _)
  have z1 := alloc_size w (.cells #[.int .i64 K, .int .i64 N, .float .f64 f, .slice ad n cap] 63)
  have hI := spec_KeyOk K N f ad n cap hf hn
  by_cases hok : okK K N f n = true
  · have e : keyB K N f n zs = bytesI K N (frank f) zs := by rw [keyB, if_pos hok]
    rw [e]
    rw [hok] at hI
    have hK : K = 1 ∨ K = 2 ∨ K = 3 := by
      simp only [okK, okI, Bool.and_eq_true, decide_eq_true_eq] at hok
      omega
    clear e
    go_enter Try.func76, Try.ntmps76
    go_wp2_with fail
    refine (hI _).mono ?_
    rintro e w1 ⟨rfl, b1⟩
    have B1 := hA.trans (b1.mono hA.size)
    obtain ⟨c0, c1, c2, c3⟩ := hX.below b1 (by omega)
    have h1 := hid (h0.below b1 (Nat.le_refl _))
    have hr := hid (spec_FloatRank f hf)
    have hfl := frank_lt f hf
    have HB := hid (fun (W : World) (hW : Reads W ad n zs) => spec_l3bytes K N f (frank f) cap hnil hW hn hN0 hN1 hfl hK)
    have HB1 := hid B1
    have X1 := hid (hX.below b1 (by omega))
    have ZZ := hid (show w.heap.size < w1.heap.size by have := b1.size; omega)
    clear hA b1 B1 hX h0 z1 hI h hK hok hnil
    go_wp2_with fail
    go_region_held3 (fun W => W.cell? ⟨w.heap.size, 0, none⟩ = some (.int .i64 K) ∧ W.cell? ⟨w.heap.size, 1, none⟩ = some (.int .i64 N) ∧ W.cell? ⟨w.heap.size, 2, none⟩ = some (.float .f64 f) ∧ W.cell? ⟨w.heap.size, 3, none⟩ = some (.slice ad n cap)) (first | exact ⟨k0, k1, k2, k3⟩ | exact ⟨by simpa using c0, by simpa using c1, by simpa using c2, by simpa using c3⟩) (first
      | (go_at_call 93; refine (hr.out _).mono ?_; rintro e w2 ⟨rfl, rfl⟩)
      | (go_at_call 92; refine (HB.out _ (h1.out.below ((Still.drewN w1 _).below _) (Nat.le_refl _))).mono ?_; rintro e w3 ⟨v, rfl, o3, b3⟩; obtain ⟨k0, k1, k2, k3⟩ := (X1.out.below ((Still.drewN w1 _).below w1.heap.size) ZZ.out).below b3 ZZ.out))
    have B3 : Below w.heap.size w w3 := (HB1.out.trans ((Still.drewN w1 _).below _)).trans (b3.mono (by have := ZZ.out; show w.heap.size ≤ w1.heap.size; omega))
    have O3 := hid (owns_base (base' := w.heap.size) o3 (by have := ZZ.out; show w.heap.size ≤ w1.heap.size; omega))
    clear o3 b3
    go_wp2_with fail
    go_ret
    exact ⟨_, rfl, O3.out, B3⟩
  · have e : keyB K N f n zs = [] := by rw [keyB, if_neg hok]
    have hok' : okK K N f n = false := by simpa using hok
    rw [e]
    rw [hok'] at hI
    go_enter Try.func76, Try.ntmps76
    go_wp2_with fail
    refine (hI _).mono ?_
    rintro e w1 ⟨rfl, b1⟩
    have B1 := hA.trans (b1.mono hA.size)
    clear hA b1 hX h0 z1
    go_wp2_with fail
    go_ret
    exact ⟨_, rfl, World.ownsRow_nil _ _ _ _, B1⟩
end Go.Proofs.Ytioefplkadpfnaa
