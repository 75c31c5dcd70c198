/- FnExactFrameAt's walk: for every slice and place the law answers true and writes nothing that was there. -/
import Derived.Test.YtgkhioomckkinahFas
import Derived.Test.YtgkhioomckkinahFai
import Derived.Test.YtgkhioomckkinahFrmLaw
namespace Go.Proofs.Ytgkhioomckkinah
open Go.RowKit

theorem faOf_bd (zs : List Int) (hz : ∀ i, 0 ≤ zs.getD i 0 ∧ zs.getD i 0 ≤ 255) (at' : Int) : (∀ i, 0 ≤ (faOf zs at').b.getD i 0 ∧ (faOf zs at').b.getD i 0 ≤ 255) ∧ (faOf zs at').b.length ≤ zs.length := by
  have hsub : ∀ A m, (∀ i, 0 ≤ (sub zs A m).getD i 0 ∧ (sub zs A m).getD i 0 ≤ 255) ∧ (sub zs A m).length ≤ zs.length := by
    intro A m
    have hl : (sub zs A m).length ≤ zs.length := by simp [sub]; omega
    refine ⟨fun i => ?_, hl⟩
    by_cases hi : i < m
    · rw [sub_at zs A m i hi]; exact hz _
    · have : (sub zs A m).length ≤ m := by simp [sub]; omega
      rw [List.getD_eq_getElem?_getD, List.getElem?_eq_none (by omega)]; simp
  unfold faOf
  split
  · simp
  · split
    · simp
    · split
      · simp
      · split
        · simp
        · exact hsub _ _

set_option maxRecDepth 100000 in
set_option maxHeartbeats 3200000 in
theorem exactFrameAt {ad : Option Addr} {n : Nat} (cap : Nat) {zs : List Int} {w : World} (h : Reads w ad n zs) (hm : n ≤ maxLen) (at' : Int) (ha : -9223372036854775808 ≤ at') (ha' : at' ≤ 9223372036854775807) :
    Calls Try.prog 7 #[.slice ad n cap, .int .i64 at'] w fun e w' => e = .returned (.bool true) ∧ Below w.heap.size w w' := by
  unfold maxLen at hm
  by_cases hbig : 1048576 < n
  · go_enter Try.func7, Try.ntmps7
    go_wp2_with fail
    go_ret
    exact ⟨rfl, Below.refl _ _⟩
  have hn : n ≤ 1048576 := by omega
  obtain ⟨hbd, hlen⟩ := faOf_bd zs h.bd at'
  rw [h.len] at hlen
  generalize hFF : faOf zs at' = F at hbd hlen
  obtain ⟨K, L, M, C⟩ := F
  have HF := hid hFF
  clear hFF
  replace hbd : ∀ i, 0 ≤ L.getD i 0 ∧ L.getD i 0 ≤ 255 := hbd
  replace hlen : L.length ≤ n := hlen
  go_enter Try.func7, Try.ntmps7
  go_wp2_with fail
  refine (toByteS_any cap h (by omega)).mono ?_
  rintro e w1 ⟨rfl, o1, b1⟩
  obtain ⟨_, _, e1, r1, _⟩ := Reads.own o1 h.bd
  obtain ⟨rfl, _, rfl⟩ := Value.slice.inj e1
  clear e1 o1
  go_wp2_with fail
  refine (spec_FrameAt n r1 (by omega) (Nat.le_refl _) at' ha ha').mono ?_
  rintro e w2 ⟨v0, rfl, o2, b2⟩
  rw [HF.out] at o2
  obtain ⟨ad0, cap0, rfl, q0, d0⟩ := Reads.own o2 hbd
  rw [HF.out]
  have B2 := b1.trans (b2.mono b1.size)
  have h2 := h.below B2 (Nat.le_refl _)
  clear o2 r1
  go_wp2_with fail
  refine (toByteS_any cap h2 (by omega)).mono ?_
  rintro e w3 ⟨rfl, x3, b3⟩
  obtain ⟨_, _, e1, y3, d3⟩ := Reads.own x3 h.bd
  obtain ⟨rfl, _, rfl⟩ := Value.slice.inj e1
  clear e1
  have q0 := q0.below b3 (Nat.le_refl _)
  have h3 := h2.below b3 (Nat.le_refl _)
  have B3 := B2.trans (b3.mono B2.size)
  go_wp2_with fail
  refine (impl_FrameAt n y3 (by omega) (Nat.le_refl _) at' ha ha').mono ?_
  rintro e w4 ⟨v1, rfl, o4, b4⟩
  rw [HF.out] at o4
  obtain ⟨ad1, cap1, rfl, q1, d1⟩ := Reads.own o4 hbd
  rw [HF.out]
  have q0 := q0.below b4 (Nat.le_refl _)
  have h4 := h3.below b4 (Nat.le_refl _)
  have B4 := B3.trans (b4.mono B3.size)
  have x4 := owns_below b4 (Nat.le_refl _) x3
  have y4 := y3.below b4 (Nat.le_refl _)
  clear x3 y3 h3 h2
  go_wp2_with fail
  refine (eqByteS_any cap1 cap0 q1 q0 (by omega)).mono ?_
  rintro e w5 ⟨rfl, s5⟩
  have o5 := s5.owns o4
  have x5 := s5.owns x4
  have y5 := s5.reads y4
  have q0 := s5.reads q0
  have q1 := s5.reads q1
  have h5 := s5.reads h4
  have B5 := B4.trans (s5.below _)
  clear o4 x4 y4 h4
  go_wp2_with fail
  refine (toByteS_any cap h5 (by omega)).mono ?_
  rintro e w6 ⟨rfl, x6, b6⟩
  obtain ⟨_, _, e1, y6, _⟩ := Reads.own x6 h.bd
  obtain ⟨rfl, _, rfl⟩ := Value.slice.inj e1
  clear e1 x6
  have o6 := owns_below b6 (Nat.le_refl _) o5
  have x6 := owns_below b6 (Nat.le_refl _) x5
  have y5 := y5.below b6 (Nat.le_refl _)
  have q0 := q0.below b6 (Nat.le_refl _)
  have q1 := q1.below b6 (Nat.le_refl _)
  have h6 := h5.below b6 (Nat.le_refl _)
  have B6 := B5.trans (b6.mono B5.size)
  clear o5 x5 h5
  go_wp2_with fail
  refine (eqByteS_any n n y5 y6 (by omega)).mono ?_
  rintro e w7 ⟨rfl, s7⟩
  have o7 := s7.owns o6
  have x7 := s7.owns x6
  have q0 := s7.reads q0
  have q1 := s7.reads q1
  have h7 := s7.reads h6
  have B7 := B6.trans (s7.below _)
  clear o6 x6 h6 y5 y6
  go_wp2_with fail
  refine (markByteS_any 1 (by omega) (by omega) (by omega) x7).mono ?_
  rintro e w8 ⟨rfl, _, g8⟩
  have z3 := row_lt d3
  have o8 := o7.kept g8 (ne_own d1 (.inl z3))
  have q0 := q0.other g8 (ne_row d0 (.inr (Nat.le_refl _)))
  have q1 := q1.other g8 (ne_row d1 (.inl z3))
  have B8 : Below w.heap.size w w8 := B7.grown g8 B7.size (fun k hk => by have := B2.size; simp [Value.ownBlock] at hk; omega)
  have h8 := h.below B8 (Nat.le_refl _)
  have hn0 : 0 ≤ (n : Int) := by omega
  clear o7 x7 g8 h7 B7
  go_wp2_with fail
  refine (eqByteS_any cap1 cap0 q1 q0 (by omega)).mono ?_
  rintro e w9 ⟨rfl, s9⟩
  have o9 := s9.owns o8
  have q0 := s9.reads q0
  have h9 := s9.reads h8
  have B9 := B8.trans (s9.below _)
  clear o8 h8 q1
  go_wp2_with fail
  refine (markByteS_any 1 (by omega) (by omega) (by omega) o9).mono ?_
  rintro e w10 ⟨rfl, o10, g10⟩
  have q0 := q0.other g10 (apart_of (B := w3.heap.size) (hi := w4.heap.size) (by rcases d0 with h | ⟨g, h, h1, h2⟩; exact .inl h; exact .inr ⟨g, h, h1, Nat.lt_trans h2 z3⟩) d1)
  obtain ⟨_, _, e1, r10, _⟩ := Reads.own o10 (marks_bd 1 L.length)
  obtain ⟨rfl, _, rfl⟩ := Value.slice.inj e1
  clear e1
  have B10 : Below w.heap.size w w10 := B9.grown g10 B9.size (fun k hk => Nat.le_trans B3.size (own_ge d1 k hk))
  have h10 := h.below B10 (Nat.le_refl _)
  have hL0 : 0 ≤ (L.length : Int) := by omega
  have hL1 : (L.length : Int) ≤ 1048576 := by omega
  clear o9 o10 g10 h9 B9
  go_wp2_with fail
  refine (heldByteS_any cap1 1 r10 (by omega) (by omega) (by omega)).mono ?_
  rintro e w11 ⟨rfl, rfl⟩
  go_wp2_with fail
  refine (toByteS_any cap h10 (by omega)).mono ?_
  rintro e w12 ⟨rfl, x12, b12⟩
  obtain ⟨_, _, e1, y12, _⟩ := Reads.own x12 h.bd
  obtain ⟨rfl, _, rfl⟩ := Value.slice.inj e1
  clear e1 x12
  have q0 := q0.below b12 (Nat.le_refl _)
  have r12 := r10.below b12 (Nat.le_refl _)
  have B12 := B10.trans (b12.mono B10.size)
  clear r10 h10
  go_wp2_with fail
  refine (impl_FrameAt n y12 (by omega) (Nat.le_refl _) at' ha ha').mono ?_
  rintro e w13 ⟨v2, rfl, o13, b13⟩
  rw [HF.out] at o13
  obtain ⟨ad2, cap2, rfl, q2, _⟩ := Reads.own o13 hbd
  rw [HF.out]
  have q0 := q0.below b13 (Nat.le_refl _)
  have r13 := r12.below b13 (Nat.le_refl _)
  have B13 := B12.trans (b13.mono B12.size)
  clear r12 o13
  go_wp2_with fail
  refine (eqByteS_any cap2 cap0 q2 q0 (by omega)).mono ?_
  rintro e w14 ⟨rfl, s14⟩
  have r14 := s14.reads r13
  go_wp2_with fail
  refine (heldByteS_any cap1 1 r14 (by omega) (by omega) (by omega)).mono ?_
  rintro e w15 ⟨rfl, rfl⟩
  go_wp2_with fail
  go_ret
  exact ⟨rfl, B13.trans (s14.below _)⟩
end Go.Proofs.Ytgkhioomckkinah
