/- FnExactPutNum's walk: for every n and size the law answers true and writes nothing that was there. -/
import Derived.Test.YtgkhioomckkinahPut
namespace Go.Proofs.Ytgkhioomckkinah
open Go.RowKit

set_option maxHeartbeats 1600000 in
theorem exactPutNum (n size : Int) (w : World) (hn : n ≤ 9223372036854775807) :
    Calls Try.prog 3 #[.int .i64 n, .int .i64 size] w fun e w' => e = .returned (.bool true) ∧ Below w.heap.size w w' := by
  have hbd := putL_bd n size
  have hlen := putL_length n size
  generalize hL : putL n size = L at hbd hlen
  have HL := hid hL
  clear hL
  go_enter Try.func3, Try.ntmps3
  go_wp2_with fail
  refine (spec_PutNum n size w hn).mono ?_
  rintro e w1 ⟨v0, rfl, o0, b1⟩
  rw [HL.out] at o0
  obtain ⟨ad0, cap0, rfl, r0, d0⟩ := Reads.own o0 hbd
  go_wp2_with fail
  refine (impl_PutNum n size w1 hn).mono ?_
  rintro e w2 ⟨v1, rfl, o1, b2⟩
  rw [HL.out] at o1
  obtain ⟨ad1, cap1, rfl, r1, d1⟩ := Reads.own o1 hbd
  have r0 := r0.below b2 (Nat.le_refl _)
  go_wp2_with fail
  refine (eqByteS_any cap1 cap0 r1 r0 (by omega)).mono ?_
  rintro e w3 ⟨rfl, s3⟩
  have o1 := s3.owns o1
  have r0 := s3.reads r0
  go_wp2_with fail
  refine (markByteS_any 1 (by omega) (by omega) (by omega) o1).mono ?_
  rintro e w4 ⟨rfl, o2, g4⟩
  have r0 := r0.other g4 (apart_of d0 d1)
  obtain ⟨ad1', cap1', e1, r2, _⟩ := Reads.own o2 (marks_bd 1 L.length)
  obtain ⟨rfl, _, rfl⟩ := Value.slice.inj e1
  clear e1
  have b4 : Below w.heap.size w w4 := ((b1.trans (b2.mono b1.size)).trans (s3.below _)).grown g4 (by have := b1.size; have := b2.size; have := s3.size; omega) (fun k hk => Nat.le_trans b1.size (own_ge d1 k hk))
  have z4 : w1.heap.size ≤ w4.heap.size := by have := b2.size; have := s3.size; have := g4.size; omega
  clear b2 g4 o1 o2
  have hL0 : 0 ≤ (L.length : Int) := by omega
  have hL8 : (L.length : Int) ≤ 8 := by omega
  go_wp2_with fail
  refine (heldByteS_any cap1 1 r2 (by omega) (by omega) (by omega)).mono ?_
  rintro e w5 ⟨rfl, rfl⟩
  go_wp2_with fail
  refine (impl_PutNum n size _ hn).mono ?_
  rintro e w6 ⟨v2, rfl, o3, b6⟩
  rw [HL.out] at o3
  obtain ⟨ad2, cap2, rfl, r3, d2⟩ := Reads.own o3 hbd
  have r0 := r0.below b6 (Nat.le_refl _)
  have r2 := r2.below b6 (Nat.le_refl _)
  go_wp2_with fail
  refine (eqByteS_any cap2 cap0 r3 r0 (by omega)).mono ?_
  rintro e w7 ⟨rfl, s7⟩
  have r2 := s7.reads r2
  go_wp2_with fail
  refine (heldByteS_any cap1 1 r2 (by omega) (by omega) (by omega)).mono ?_
  rintro e w8 ⟨rfl, rfl⟩
  go_wp2_with fail
  go_ret
  exact ⟨rfl, (b4.trans (b6.mono b4.size)).trans (s7.below _)⟩
end Go.Proofs.Ytgkhioomckkinah
