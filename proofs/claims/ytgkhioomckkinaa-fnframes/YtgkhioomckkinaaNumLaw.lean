/- FnNumbers' walk: for every code the law answers true and writes nothing that was there. -/
import Derived.Test.YtgkhioomckkinaaDraw
import Derived.Test.YtgkhioomckkinaaPut
import Derived.Test.YtgkhioomckkinaaGet
namespace Go.Proofs.Ytgkhioomckkinaa
open Go.RowKit

/-- The digits are the number again. -/
theorem val_dig (f : Nat → Int) (n size : Nat) (hf : ∀ j, j < size → f j = ((sh n j : Nat) : Int) % 256) (h0 : sh n size = 0) : ∀ c k, k + c = size → val f k c = ((sh n k : Nat) : Int)
  | 0, k, h => by obtain rfl : k = size := by omega
                  rw [val_zero, h0]; rfl
  | c + 1, k, h => by
    have ih := val_dig f n size hf h0 c (k + 1) (by omega)
    rw [show val f k (c + 1) = val f (k + 1) c * 256 + f k from rfl, ih, hf k (by omega), sh_succ]
    omega
theorem num_front (front : List Int) (n size : Nat) (h1 : 1 ≤ size) (h8 : size ≤ 8) (h0 : sh n size = 0) (hn : n ≤ 9223372036854775807) :
    numOk (front ++ dig n size) front.length size = true ∧ numOf (front ++ dig n size) front.length size = n := by
  have hf : ∀ j, j < size → byteFrom (front ++ dig n size) front.length j = ((sh n j : Nat) : Int) % 256 := by
    intro j hj
    unfold byteFrom
    rw [List.getD_eq_getElem?_getD, List.getElem?_append_right (by omega), Nat.add_sub_cancel_left, ← List.getD_eq_getElem?_getD, dig_at n size j hj]
  have hv := val_dig _ n size hf h0 size 0 (by omega)
  rw [sh_zero] at hv
  obtain ⟨e1, e2⟩ := num_yes (front ++ dig n size) front.length size h1 h8 (by rw [List.length_append, dig_length]; omega) (by rw [hv]; omega)
  exact ⟨e1, by rw [e2, hv]⟩

set_option maxRecDepth 100000 in
set_option maxHeartbeats 1600000 in
theorem at_any {w : World} {ad : Option Addr} {n : Nat} (cap : Nat) {zs : List Int} (h : Reads w ad n zs) (hn : n ≤ 2097152) (i : Int) (hi0 : 0 ≤ i) (hi : i ≤ 1000) :
    Calls Try.prog 9 #[.slice ad n cap, .int .i64 i] w fun e w' => ∃ x : Int, e = .returned (.int .i64 x) ∧ 0 ≤ x ∧ x ≤ 255 ∧ w' = w := by
  obtain ⟨i, rfl⟩ := Int.eq_ofNat_of_zero_le hi0
  by_cases hlt : i < n
  · rcases h.cells with h0 | ⟨b, off, rfl, hc⟩
    · omega
    have hcell := hc i hlt
    have hb := h.bd i
    generalize zs.getD i 0 = c at hcell hb
    clear hc
    go_enter Try.func9, Try.ntmps9
    go_wp2
    go_ret
    exact ⟨_, rfl, hb.1, hb.2, rfl⟩
  · go_enter Try.func9, Try.ntmps9
    go_wp2
    go_ret
    exact ⟨_, rfl, by omega, by omega, rfl⟩

theorem bd_app {a b : List Int} (ha : ∀ i, 0 ≤ a.getD i 0 ∧ a.getD i 0 ≤ 255) (hb : ∀ i, 0 ≤ b.getD i 0 ∧ b.getD i 0 ≤ 255) : ∀ i, 0 ≤ (a ++ b).getD i 0 ∧ (a ++ b).getD i 0 ≤ 255 := by
  intro i
  by_cases h : i < a.length
  · have := ha i
    rwa [List.getD_eq_getElem?_getD, List.getElem?_append_left h, ← List.getD_eq_getElem?_getD]
  · have := hb (i - a.length)
    rwa [List.getD_eq_getElem?_getD, List.getElem?_append_right (by omega), ← List.getD_eq_getElem?_getD]
theorem bd_three : ∀ i, 0 ≤ ([9, 8, 7] : List Int).getD i 0 ∧ ([9, 8, 7] : List Int).getD i 0 ≤ 255 := by
  intro i
  match i with
  | 0 => decide
  | 1 => decide
  | 2 => decide
  | i + 3 => simp
theorem Reads.cut3 {w : World} {a : Addr} {n : Nat} {zs : List Int} (h : Reads w (some a) n zs) (k : Nat) (hk : k ≤ n) : Reads w (some a) k (zs.take k) := by
  refine ⟨by rw [List.length_take, h.len]; omega, ?_, ?_⟩
  · by_cases h0 : k = 0
    · exact .inl h0
    · rcases h.cells with h1 | ⟨b, off, e, hc⟩
      · omega
      · exact .inr ⟨b, off, e, fun i hi => by rw [hc i (by omega)]; simp [hi]⟩
  · intro i
    by_cases hi : i < k
    · have := h.bd i
      rwa [List.getD_eq_getElem?_getD, List.getElem?_take, if_pos hi, ← List.getD_eq_getElem?_getD]
    · rw [List.getD_eq_getElem?_getD, List.getElem?_take, if_neg hi]; simp

set_option maxRecDepth 100000 in
set_option maxHeartbeats 3200000 in
theorem lawNumbers {ad : Option Addr} {n : Nat} (cap : Nat) {zs : List Int} {w : World} (h : Reads w ad n zs) (hm : n ≤ maxLen) :
    Calls Try.prog 3 #[.slice ad n cap] w fun e w' => e = .returned (.bool true) ∧ Below w.heap.size w w' := by
  unfold maxLen at hm
  obtain ⟨i0, hi, hz0, hz1, hz2⟩ := info_parts Try.info5
  by_cases hbig : 1048576 < n
  · go_enter Try.func3, Try.ntmps3
    go_wp2
    go_ret
    exact ⟨rfl, Below.refl _ _⟩
  have hn : n ≤ 1048576 := by omega
  go_enter Try.func3, Try.ntmps3
  go_wp2_with (go_at_call 5; go_in)
  refine (drawPutNum cap h (by omega)).mono ?_
  rintro e w1 ⟨x, s, rfl, hx0, hx1, hs0, hs1, b1⟩
  have h1 := h.below b1 (Nat.le_refl _)
  go_wp2_with fail
  refine (impl_PutNum x s w1 hx1).mono ?_
  rintro e w2 ⟨v2, rfl, o2, b2⟩
  obtain ⟨ad2, cap2, rfl, r2, d2⟩ := Reads.own o2 (putL_bd x s)
  have h2 := h1.below b2 (Nat.le_refl _)
  have B2 := b1.trans (b2.mono b1.size)
  clear o2
  go_wp2_with fail
  refine (spec_PutNum x s w2 hx1).mono ?_
  rintro e w3 ⟨v3, rfl, o3, b3⟩
  obtain ⟨ad3, cap3, rfl, r3, _⟩ := Reads.own o3 (putL_bd x s)
  have h3 := h2.below b3 (Nat.le_refl _)
  have r2 := r2.below b3 (Nat.le_refl _)
  have B3 := B2.trans (b3.mono B2.size)
  clear o3 r3
  by_cases hp : 1 ≤ s ∧ s ≤ 8 ∧ 0 ≤ x ∧ sh x.toNat s.toNat = 0
  · obtain ⟨p1, p2, p3, p4⟩ := hp
    obtain ⟨X, rfl⟩ := Int.eq_ofNat_of_zero_le p3
    obtain ⟨S, rfl⟩ := Int.eq_ofNat_of_zero_le (show 0 ≤ s by omega)
    simp only [Int.toNat_natCast] at p4
    have hd := putL_yes X S (by omega) (by omega) p4
    have hl := dig_length X S
    rw [hd] at r2
    rw [hd]
    have HN := hid (fun front => num_front front X S (by omega) (by omega) p4 (by omega))
    have hbd := dig_bd X S
    generalize dig X S = L at *
    rw [hl] at r2
    simp only [hl]
    have q1 : ((S : Int) == 0) = false := beq_eq_false_iff_ne.2 (by omega)
    clear hd
    go_wp2_with fail
    have b4 : Below w.heap.size w (w3.alloc (.cells #[.int .u8 9, .int .u8 8, .int .u8 7] 5)) := B3.alloc B3.size _
    have h4 := h.below b4 (Nat.le_refl _)
    have r4 := r2.below ((Below.refl w3.heap.size w3).alloc (Nat.le_refl _) (.cells #[.int .u8 9, .int .u8 8, .int .u8 7] 5)) (Nat.le_refl _)
    have f4 : Reads (w3.alloc (.cells #[.int .u8 9, .int .u8 8, .int .u8 7] 5)) (some ⟨w3.heap.size, 0, none⟩) 3 [9, 8, 7] := by
      obtain ⟨ad', cap', e, r, _⟩ := Reads.own (zs := [9, 8, 7]) (World.ownsRow_lit (base := w3.heap.size) (e := 5) (size := 1) w3 #[.int .u8 9, .int .u8 8, .int .u8 7] 3 (Nat.le_refl _) (by unfold maxLen; omega) rfl) (bd_three)
      obtain ⟨rfl, _, rfl⟩ := Value.slice.inj e
      exact r
    generalize w3.alloc (.cells #[.int .u8 9, .int .u8 8, .int .u8 7] 5) = w4 at *
    refine (at_any cap h4 (by omega) 0 (by omega) (by omega)).mono ?_
    rintro e w5 ⟨y, rfl, hy0, hy1, rfl⟩
    obtain ⟨k, hk⟩ := Int.eq_ofNat_of_zero_le (show 0 ≤ y % 4 by omega)
    have hk3 : k ≤ 3 := by omega
    have hk3' : (k : Int) ≤ 3 := by omega
    have F4 := hid (f4.cut3 k hk3)
    generalize ([9, 8, 7] : List Int).take k = Fr at F4
    have hFl := F4.out.len
    have HN := hid (HN.out Fr)
    rw [hFl] at HN
    have FrBd := hid F4.out.bd
    clear f4 B3 h3
    obtain ⟨bL, oL, rfl⟩ := r4.pos (by omega)
    have HRb : Hid (bL < w5.heap.size) := by
      rcases r4.cells with h0 | ⟨b', o', e, hc⟩
      · omega
      · cases e; exact World.block_lt_of_cell? w5 _ (hc 0 (by omega))
    have R4 := hid r4
    go_wp2_with (first
      | (at_builtin; refine wpList_append_own _ rfl (.tmp 39) (.tmp 40) 22 rfl w5.heap.size 5 i0 (.int .u8 0) 1 1 Try.underlying22 hi hz0 hz1 hz2 rfl (by decide) (.slice (some ⟨w5.heap.size, 0, none⟩) 0 0) 0 [] ?g0 (World.ownsRow_lit w5 #[] 0 (Nat.le_refl _) (Nat.zero_le _) rfl) ⟨w3.heap.size, 0, none⟩ k 3 (bys Fr) ?g1 ?g2 (F4.out.below ((Below.refl _ _).alloc (Nat.le_refl _) _) (Nat.le_refl _)).news (bys_one _) ?g4 ?g5 ?g6 ?_))
    case g0 => rfl
    case g1 => rfl
    case g2 => rw [bys_length, hFl, Nat.mul_one]
    case g4 => unfold maxLen; omega
    case g5 => omega
    case g6 => simp
    intro v6 w6 o6 g6 _
    have b6 : Below w5.heap.size w5 w6 := ((Below.refl _ _).alloc (Nat.le_refl _) _).grown g6 (by simp) (fun k hk => by simp [Value.ownBlock] at hk; omega)
    have R6 := hid (R4.out.below b6 (Nat.le_refl _))
    have B6 := b4.trans (b6.mono b4.size)
    have Z6 := b6.size
    clear g6 b6 r4 R4 F4 h4 r2
    go_wp2_with (first
      | (at_builtin; refine wpList_append_own _ rfl (.tmp 41) (.tmp 42) 22 rfl w5.heap.size 5 i0 (.int .u8 0) 1 1 Try.underlying22 hi hz0 hz1 hz2 rfl (by decide) _ _ _ rfl o6 ⟨bL, oL, none⟩ S cap2 (bys L) rfl ?k2 R6.out.news (bys_one _) ?k4 ?k5 ?k6 ?_))
    case k2 => rw [bys_length, hl, Nat.mul_one]
    case k4 => unfold maxLen; omega
    case k5 => omega
    case k6 => exact Z6
    intro v7 w7 o7 g7 _
    have b7 : Below w5.heap.size w6 w7 := (Below.refl _ _).grown g7 Z6 (fun k hk => (o6.lt k hk).1)
    have B7 := B6.trans (b7.mono b4.size)
    have R7 : Hid (Reads w7 (some ⟨bL, oL, none⟩) S L) := R6.out.other g7 (fun a ha e => by
      cases ha
      have h1 := (o6.lt bL e.symm).1
      have h2 := HRb.out
      omega)
    rw [← bys_append] at o7
    obtain ⟨ad7, cap7, rfl, r7, _⟩ := Reads.own o7 (bd_app FrBd.out hbd)
    clear g7 b7 o6 o7 R6
    go_wp2_with fail
    refine (impl_GetNum cap7 r7 (by omega) (k : Int) (S : Int) (by omega) (by omega) (by omega)).mono ?_
    rintro e w8 ⟨rfl, rfl⟩
    rw [HN.out.1, HN.out.2]
    go_wp2_with fail
    refine (impl_GetNum cap2 R7.out (by omega) 1 (S : Int) (by omega) (by omega) (by omega)).mono ?_
    rintro e w9 ⟨rfl, rfl⟩
    have hno := num_no L 1 S (by omega)
    rw [hno.1, hno.2]
    clear hno
    go_wp2_with fail
    go_ret
    exact ⟨rfl, B7⟩
  · have hd : putL x s = [] := by unfold putL; rw [if_neg hp]
    rw [hd] at r2
    rw [hd]
    go_wp2_with fail
    go_ret
    exact ⟨rfl, B3⟩
end Go.Proofs.Ytgkhioomckkinaa
